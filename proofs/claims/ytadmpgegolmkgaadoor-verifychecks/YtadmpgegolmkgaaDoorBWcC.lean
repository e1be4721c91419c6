import Derived.Test.YtadmpgegolmkgaaDoorBWyQ
import Derived.Test.YtadmpgegolmkgaaDoorBWzB
import Derived.Test.YtadmpgegolmkgaaDoorBWmE
set_option linter.unusedVariables false
set_option linter.unusedSimpArgs false
set_option maxHeartbeats 4000000
set_option maxRecDepth 100000
namespace Go.Proofs.YtadmpgegolmkgaaDoor
open Go.RowKit
theorem jI : ∀ {l : List CPg} {k : Nat}, (fU l k).2.2 = 0 -> ∀ p ∈ l, (dB p).2.1 = 0
 | [], _, _, p, hp => by cases hp
 | q :: r, k, h, p, hp => by
  rw [fU] at h
  split at h
  ·rename_i h0
   rcases List.mem_cons.1 hp with e | e
   ·subst e; exact h0
   ·exact jI h p e
  ·rename_i h0
   exact absurd h h0
theorem kZ {u : CUn} (h : (aB u).2.2 = 0) : (dx u).2 = false /\ (bH u (dfL u.types) u.ae 0).2.2 = 0 /\ (fU u.ae 0).2.2 = 0 := by
 unfold aB at h
 split at h
 ·exact absurd h (by simp)
 ·rename_i h1
  split at h
  ·rename_i h2
   exact ⟨by simpa using h1, h2, h⟩
  ·rename_i h2
   exact absurd h h2
def fO (p : CPg) : List Int := (List.range p.code.length).map fun i => ((kA (dB p).2.2.K i).1 : Int) - 1
def fP (u : CUn) (k : Int) : List Int := if 0 <= k /\ k < u.ae.length /\ (aB u).2.2 = 0 then fO (u.ae.getD k.toNat pgD) else []
structure HiO (w w' : World) (v : Value) (l : List Int) : Prop where
 bel : Below w.heap.size w w'
 row : (l = [] /\ v = .slice none 0 0) ∨ ∃ g, w.heap.size <= g /\ v = .slice (some ⟨g, 0, none⟩) l.length l.length /\ w'.heap[g]? = some (.cells (l.map (Value.int .i64)).toArray 3 (0, 0))
theorem jJ (p : CPg) : (fO p).length = p.code.length := by simp [fO]
theorem pE (w : World) (hV : VW w) (u : CUn) (pa ta : Option Addr) (pc tc : Nat) (hu : dL w w.heap.size pa pc ta tc u) (hw : UnW u) (k : Int) :
  Calls Tryd.prog 11 #[unV u pa pc ta tc, .int .i64 k] w fun e w' => ∃ v, e = .returned v /\ Bx (HiO w w' v (fP u k)) := by
 obtain ⟨H, hH⟩ : ∃ H, w.heap.size = H := ⟨_, rfl⟩
 obtain ⟨w1, hw1⟩ : ∃ w1, w.alloc (.cells #[.slice pa u.ae.length pc, .slice ta u.types.length tc] 25) = w1 := ⟨_, rfl⟩
 have b1 : Below w.heap.size w w1 := by rw [← hw1]; exact ak w _
 have q1 : w1.heap[H]? = some (.cells #[.slice pa u.ae.length pc, .slice ta u.types.length tc] 25 (0, 0)) := by rw [← hw1]; exact aj _ _ _ hH
 have s1 : w1.heap.size = H + 1 := by rw [← hw1]; simp [hH]
 have HU : Bx (∀ X, Below (H + 1) w1 X -> X.cell? ⟨H, 0, none⟩ = some (.slice pa u.ae.length pc) /\ X.cell? ⟨H, 1, none⟩ = some (.slice ta u.types.length tc)) := ⟨fun X hX => ⟨aa ((hX.block H (by omega)).trans q1) rfl, aa ((hX.block H (by omega)).trans q1) rfl⟩⟩
 have hXb : ∀ X, Below (H + 1) w1 X -> Below w.heap.size w X := fun X hX => b1.trans (hX.mono (by omega))
 have HXB : Bx (∀ X, Below (H + 1) w1 X -> Below w.heap.size w X) := ⟨hXb⟩
 have HB0 : Bx (Below (H + 1) w1 w1) := ⟨Below.refl _ _⟩
 have HCK : Bx (∀ X, Below (H + 1) w1 X -> Calls Tryd.prog 9 #[.agg #[.slice pa u.ae.length pc, .slice ta u.types.length tc]] X fun e w' => e = .returned (.tuple #[.int .i64 ((aB u).1 : Int), .int .i64 ((aB u).2.1 : Int), .int .i64 (aB u).2.2]) /\ Bx (Below (H + 1) w1 w')) := ⟨fun X hX => (mD X (hV.below (hXb X hX)) u pa ta pc tc (dE hu (hXb X hX)) hw).mono fun e w' q => ⟨q.1, ⟨hX.trans (q.2.out.mono (by have := hX.size; omega))⟩⟩⟩
 obtain ⟨hu0, hu1⟩ := HU.out w1 (Below.refl _ _)
 have hcap := hu.ae.cap
 unfold fP unV
 by_cases hk0 : k < 0
 ·rw [if_neg (by omega)]
  have hkb : decide (k < 0) = true := decide_eq_true hk0
  have HF : Bx (HiO w w1 (.slice none 0 0) []) := ⟨⟨b1, .inl ⟨rfl, rfl⟩⟩⟩
  clear hV hu hw b1 q1 hXb HCK hk0
  go_enter Tryd.func11, Tryd.ntmps11
  go_wp2
  go_ret
  exact ⟨_, rfl, HF⟩
 have hkb : decide (k < 0) = false := decide_eq_false hk0
 by_cases hkl : ¬ k < u.ae.length
 ·rw [if_neg (by omega)]
  have hkb2 : decide ((u.ae.length : Int) <= k) = true := decide_eq_true (by omega)
  have HF : Bx (HiO w w1 (.slice none 0 0) []) := ⟨⟨b1, .inl ⟨rfl, rfl⟩⟩⟩
  clear hV hu hw b1 q1 hXb HCK hk0 hkl
  go_enter Tryd.func11, Tryd.ntmps11
  go_wp2
  go_ret
  exact ⟨_, rfl, HF⟩
 have hkl2 : k < u.ae.length := by omega
 have hkb2 : decide ((u.ae.length : Int) <= k) = false := decide_eq_false (by omega)
 by_cases hc : (aB u).2.2 = 0
 ·rw [if_pos ⟨by omega, hkl2, hc⟩]
  have hcb : (((aB u).2.2 : Int) != 0) = false := by simp [hc]
  obtain ⟨m, hm⟩ : ∃ m : Nat, k = m := ⟨k.toNat, by omega⟩
  have hml : m < u.ae.length := by omega
  have hpe : u.ae.getD k.toNat pgD = u.ae[m] := by
   rw [hm, show ((m : Int)).toNat = m by omega, List.getD_eq_getElem?_getD, List.getElem?_eq_getElem hml]
   rfl
  rw [hpe]
  obtain ⟨z1, z2, z3⟩ := kZ hc
  have hpg := nJ hw z1 z2 _ (List.getElem_mem hml)
  have hwy := jI z3 _ (List.getElem_mem hml)
  obtain ⟨b, o, ca, cc, hpa, hb, hci, HC⟩ := bR hu.ae hml
  have hccap := hci.cap
  have hn0 := hpg.n0
  have hn1 := hpg.n1
  have HFO : Bx (∀ X, Below w.heap.size w X -> Calls Tryd.prog 26 #[.int .i64 (u.ae[m].code.length : Int)] X fun e w' => ∃ wb g, e = .returned (.pointer (some ⟨wb, 0, none⟩)) /\ Bx (∀ X', Below w'.heap.size w' X' -> Calls Tryd.prog 27 #[.pointer (some ⟨wb, 0, none⟩), .agg (pgC u.ae[m] ca cc)] X' fun e w'' => (∃ y, e = .returned y) /\ Bx (Below X.heap.size X w'' /\ WkR w'' X.heap.size wb g (pgA u.ae[m] ca cc) (dB u.ae[m]).2.2.K)) /\ Bx (Below X.heap.size X w' /\ g.n = u.ae[m].code.length)) := ⟨fun X hX => by
   refine (iQ X _ hn0 (by omega)).mono ?_
   rintro e w' ⟨wb, g, rfl, hn⟩
   obtain ⟨r, gn, t1, t2, bl⟩ := hn.out
   refine ⟨wb, g, rfl, ⟨fun X' hX' => ?_⟩, ⟨bl, gn⟩⟩
   have hb1 : Below X.heap.size X X' := bl.trans (hX'.mono bl.size)
   refine (kP X X' (hV.below hX) hb1 wb g wA0 _ (r.below hX') u.ae[m] _ _ hpg ca cc ((hci.mono fun b o x hb he => he.below hX hX.size hb).up hX.size) (by omega) t1 t2).mono ?_
   rintro e w'' ⟨rfl, hq⟩
   exact ⟨⟨_, rfl⟩, ⟨hq.out.1, hq.out.2 hwy⟩⟩⟩
  have HHL : Bx (∀ i, i < u.ae[m].code.length -> (fO u.ae[m])[i]? = some (((kA (dB u.ae[m]).2.2.K i).1 : Int) - 1)) := ⟨fun i hi => by simp [fO, hi]⟩
  have HHN : Bx ((fO u.ae[m]).length = u.ae[m].code.length) := ⟨jJ _⟩
  have HKB : Bx ((dB u.ae[m]).2.2.K.length = u.ae[m].code.length /\ ∀ i, i < u.ae[m].code.length -> (kA (dB u.ae[m]).2.2.K i).1 <= 2147483647) := ⟨zP hpg⟩
  have hmI : (m : Int) < (u.ae.length : Int) := by omega
  have hwlt : Bx (b < w.heap.size) := ⟨hb⟩
  clear hV hu hw b1 q1 hXb hk0 hkl hc hkl2 z1 z2 z3 hpg hwy hpe hci
  generalize aB u = CR at *
  generalize dB u.ae[m] = WY at *
  generalize fO u.ae[m] = HI at *
  subst hm
  subst hpa
  unfold pgC at HFO
  generalize u.ae[m] = pg at *
  have HXA : Bx (∀ X : World, Below (H + 1) w1 X -> ∀ o, Below w.heap.size w (X.alloc o)) := ⟨fun X hX o => (HXB.out X hX).alloc (HXB.out X hX).size o⟩
  have HPC : Bx (∀ X Y : World, Below (X.alloc (.cells (pgC pg ca cc) 40)).heap.size (X.alloc (.cells (pgC pg ca cc) 40)) Y -> Y.cell? ⟨X.heap.size, 0, none⟩ = some (.int .i64 pg.params) /\ Y.cell? ⟨X.heap.size, 1, none⟩ = some (.int .i64 pg.slots) /\ Y.cell? ⟨X.heap.size, 2, none⟩ = some (.int .i64 pg.caps) /\ Y.cell? ⟨X.heap.size, 3, none⟩ = some (.bool pg.res) /\ Y.cell? ⟨X.heap.size, 4, none⟩ = some (.slice ca pg.code.length cc)) := ⟨fun X Y hY => by
   have := (hY.block X.heap.size (by simp)).trans (aj X _ _ rfl)
   exact ⟨aa this rfl, aa this rfl, aa this rfl, aa this rfl, aa this rfl⟩⟩
  unfold pgC at HPC
  have hmk := fun W => rY W pg.code.length (by omega)
  go_enter Tryd.func11, Tryd.ntmps11
  go_wp2_with (first
   | (go_at_call 9; refine (HCK.out _ HB0.out).mono ?_; rintro e w2 ⟨rfl, HB2⟩; obtain ⟨k0, k1⟩ := HU.out _ HB2.out; obtain ⟨c0, c1, c2, c3, c4⟩ := HC.out _ (HXB.out _ HB2.out); have hbl2 : b < w2.heap.size := (by have := hwlt.out; have := (HXB.out _ HB2.out).size; omega))
   | (go_at_call 26; refine (HFO.out _ (HXA.out w2 HB2.out _)).mono ?_; rintro e w3 ⟨wb, g, rfl, HF3, HB3⟩; obtain ⟨p0, p1, p2, p3, p4⟩ := HPC.out w2 w3 HB3.out.1)
   | (go_at_call 27; refine (HF3.out _ (Below.refl _ _)).mono ?_; rintro e w4 ⟨⟨y, rfl⟩, HF4⟩; obtain ⟨r0, r1, r2, r3, r4⟩ := HPC.out w2 w4 HF4.out.1))
  have hWR := HF4.out.2
  obtain ⟨lv, pv, mv, hwk⟩ := hWR.wk
  unfold wkA at hwk
  have HK5 : Bx (w4.cell? ⟨wb, 5, none⟩ = some (.slice (some ⟨g.kb, 0, none⟩) g.n g.n)) := ⟨aa hwk rfl⟩
  have HKN : Bx (w4.heap[g.kb]? = some (.cells (kN WY.2.2.K).toArray 66 (0, 0))) := ⟨hWR.kn⟩
  obtain ⟨G, hG⟩ : ∃ G, w4.heap.size = G := ⟨_, rfl⟩
  have hwbl : wb < G := by rw [← hG]; exact hWR.lt.1
  have hkbl : g.kb < G := by rw [← hG]; exact hWR.lt.2.1
  obtain ⟨w5, hw5⟩ : ∃ w5, w4.alloc (.cells (dV pg.code.length fun _ => .int .i64 0) 3) = w5 := ⟨_, rfl⟩
  have b5 : Below w4.heap.size w4 w5 := by rw [← hw5]; exact ak w4 _
  have q5 : w5.heap[G]? = some (.cells (dV pg.code.length fun _ => .int .i64 0) 3 (0, 0)) := by rw [← hw5]; exact aj _ _ _ hG
  have hwb4 : Below w.heap.size w w4 := by
   have h1 := HXA.out w2 HB2.out (.cells (pgC pg ca cc) 40)
   exact h1.trans (HF4.out.1.mono h1.size)
  have hwG : w.heap.size <= G := by rw [← hG]; exact hwb4.size
  have HB5 : Bx (Below w.heap.size w w5) := ⟨hwb4.trans (b5.mono hwb4.size)⟩
  have HQ5 : Bx (w5.heap[G]? = some (.cells (dV pg.code.length fun j => .int .i64 (if j < 0 then ((kA WY.2.2.K j).1 : Int) - 1 else 0)) 3 (0, 0))) := ⟨by simpa using q5⟩
  have HS5 : Bx (∀ j, j < G -> w5.heap[j]? = w4.heap[j]?) := ⟨fun j hj => b5.block j (by omega)⟩
  have hgn := HB3.out.2
  have hwG2 : Bx (w.heap.size <= G) := ⟨hwG⟩
  rw [hG, hw5]
  clear hWR hwk hw5 b5 q5 hwb4 hwG HF4 HF3 p0 p1 p2 p3 p4 r0 r1 r2 r3 r4 k0 k1 c0 c1 c2 c3 c4 hu0 hu1 hmk HCK HFO HPC HXA hbl2 HB2 HB3 hG
  go_loopg [47] (pg.code.length + 1) (fun f v47 wr => ∃ i : Nat, f = pg.code.length + 1 - i /\ i <= pg.code.length /\ v47 = .int .i64 i /\ Bx (wr.heap[G]? = some (.cells (dV pg.code.length fun j => .int .i64 (if j < i then ((kA WY.2.2.K j).1 : Int) - 1 else 0)) 3 (0, 0))) /\ Bx (∀ j, j < G -> wr.heap[j]? = w4.heap[j]?) /\ Bx (Below w.heap.size w wr))
  case atStart => exact ⟨0, by simp, Nat.zero_le _, rfl, HQ5, HS5, HB5⟩
  case round =>
   clear HQ5 HS5 HB5
   obtain ⟨i, hf, hi, rfl, HQ, HS, HB⟩ := hrel
   by_cases hlt : i < pg.code.length
   ·have hiI : (i : Int) < (pg.code.length : Int) := by omega
    have hig : (i : Int) < (g.n : Int) := by omega
    have k5 := (World.cell?_of_block (a := ⟨wb, 5, none⟩) (HS.out wb hwbl)).trans HK5.out
    obtain ⟨e1, e2⟩ := HKB.out
    have hka : WY.2.2.K[i]? = some (kA WY.2.2.K i) := by
     unfold kA
     rw [List.getElem?_eq_getElem (by omega)]
     rfl
    have k6 := (World.cell?_of_block (a := ⟨g.kb, i * 2, none⟩) (HS.out g.kb hkbl)).trans (aa HKN.out (by simpa using (mW _ _ _ hka).1))
    have hbd := e2 i hlt
    have g0 : wr.cell? ⟨G, i, none⟩ = some (.int .i64 0) := aa HQ.out (by rw [fE hlt, if_neg (by omega)])
    have gf : ∀ j, wr.frozen? ⟨G, j, none⟩ = false := fun j => by simp [World.frozen?, HQ.out]
    have hwr : IntKind.i64.wrap (((kA WY.2.2.K i).1 : Int) - 1) = ((kA WY.2.2.K i).1 : Int) - 1 := by rw [IntKind.wrap_i64]; omega
    have HQ2 : Bx ((wr.setCell ⟨G, i, none⟩ (.int .i64 (((kA WY.2.2.K i).1 : Int) - 1))).heap[G]? = some (.cells (dV pg.code.length fun j => .int .i64 (if j < i + 1 then ((kA WY.2.2.K j).1 : Int) - 1 else 0)) 3 (0, 0))) := ⟨by
     have := heap_setCell_same wr G i _ 3 (.int .i64 (((kA WY.2.2.K i).1 : Int) - 1)) HQ.out
     rw [jh hlt] at this
     rw [this]
     congr 2
     refine fM fun j hj => ?_
     by_cases e : j = i
     ·subst e; rw [aU, if_pos (by omega)]
     ·rw [bg _ _ e]
      by_cases e2 : j < i
      ·rw [if_pos e2, if_pos (by omega)]
      ·rw [if_neg e2, if_neg (by omega)]⟩
    have HS2 : Bx (∀ j, j < G -> (wr.setCell ⟨G, i, none⟩ (.int .i64 (((kA WY.2.2.K i).1 : Int) - 1))).heap[j]? = w4.heap[j]?) := ⟨fun j hj => (Below.heap_setCell wr ⟨G, i, none⟩ _ j (by show j ≠ G; omega)).trans (HS.out j hj)⟩
    have HB6 : Bx (Below w.heap.size w (wr.setCell ⟨G, i, none⟩ (.int .i64 (((kA WY.2.2.K i).1 : Int) - 1)))) := ⟨HB.out.setCell (p := ⟨G, i, none⟩) hwG2.out _⟩
    clear HQ HS HB e1 e2 hka
    generalize ((kA WY.2.2.K i).1 : Int) = y at *
    go_wp2
    go_roundg (pg.code.length + 1 - (i + 1))
    case measure => omega
    case rel => exact ⟨i + 1, rfl, by omega, by simp, HQ2, HS2, HB6⟩
   ·obtain rfl : i = pg.code.length := by omega
    have HFI : Bx (HiO w wr (.slice (some ⟨G, 0, none⟩) pg.code.length pg.code.length) HI) := ⟨⟨HB.out, .inr ⟨G, hwG2.out, by rw [HHN.out], by
     rw [HQ.out]
     congr 2
     apply Array.ext_getElem?
     intro j
     by_cases hj : j < pg.code.length
     ·rw [fE hj, if_pos hj]
      simp [HHL.out j hj]
     ·rw [Array.getElem?_eq_none (by rw [gJ]; omega), Array.getElem?_eq_none (by simp [HHN.out]; omega)]⟩⟩⟩
    clear HQ HS HB
    go_wp2
    go_ret
    exact ⟨_, rfl, HFI⟩
 ·rw [if_neg (by omega)]
  have hcb : (((aB u).2.2 : Int) != 0) = true := by simp [hc]
  clear hV hu hw b1 q1 hXb hk0 hkl hc hkl2
  generalize aB u = CR at *
  go_enter Tryd.func11, Tryd.ntmps11
  go_wp2_with (first
   | (go_at_call 9; refine (HCK.out _ HB0.out).mono ?_; rintro e w2 ⟨rfl, HB2⟩))
  go_ret
  exact ⟨_, rfl, ⟨⟨HXB.out _ HB2.out, .inl ⟨rfl, rfl⟩⟩⟩⟩
structure Sm (x x' : CIn) : Prop where
 op : x'.op = x.op
 b : x'.b = x.b
 ls : x'.list = x.list
 a : x'.a = x.a ∨ x.op = 1 ∨ (x.op = 2 /\ (x.a = 0 ∨ x.a = 1) /\ (x'.a = 0 ∨ x'.a = 1))
theorem Sm.refl (x : CIn) : Sm x x := ⟨rfl, rfl, rfl, .inl rfl⟩
theorem Sm.a' {x x' : CIn} (h : Sm x x') (h1 : x.op ≠ 1) (h2 : x.op ≠ 2) : x'.a = x.a := by
 rcases h.a with e | e | e
 ·exact e
 ·exact absurd e h1
 ·exact absurd e.1 h2
theorem Sm.more {x x' : CIn} (h : Sm x x') : cZ x' = cZ x := by
 unfold cZ
 rw [h.op, h.b, h.ls]
 by_cases e : x.op = 10 ∨ x.op = 11 ∨ x.op = 23 ∨ x.op = 24
 ·rw [if_pos e, if_pos e, h.a' (by omega) (by omega)]
 ·rw [if_neg e, if_neg e]
theorem Sm.iT {x x' : CIn} (h : Sm x x') : ax x' = ax x := by
 unfold ax
 rw [h.more, h.op]
theorem Sm.pushes {x x' : CIn} (h : Sm x x') : au x' = au x := by
 unfold au
 rw [h.op, h.b]
theorem Sm.nexts {x x' : CIn} (h : Sm x x') (i : Nat) (p : Wy) : aQ i x' p = aQ i x p := by
 unfold aQ
 rw [h.op, h.ls]
 by_cases e : x.op = 19 ∨ x.op = 20 ∨ x.op = 21
 ·rw [h.a' (by omega) (by omega)]
 ·split
  ·rfl
  ·split
   ·omega
   ·split
    ·omega
    ·rfl
theorem Sm.past {x x' : CIn} (h : Sm x x') (L : Nat) (P : Prs) (s : Nat) : past L P s x'.op x'.a = past L P s x.op x.a := by
 rw [h.op]
 by_cases e : x.op = 5 ∨ x.op = 6
 ·rw [h.a' (by omega) (by omega)]
 ·unfold Proofs.YtadmpgegolmkgaaDoor.past
  rw [if_neg (by omega), if_neg (by omega), if_neg (by omega), if_neg (by omega)]
theorem Sm.look {x x' : CIn} (h : Sm x x') (n : Nat) (res : Bool) (L i : Nat) (p : Wy) (s : Wst) : bY n res L i x' p s = bY n res L i x p s := by
 have hg : goP L i x' p s = goP L i x p s := by
  unfold goP abN
  rw [h.past, h.nexts, h.iT, h.pushes]
 have hn : (iB x'.op = true /\ den L s.P p.2 x'.a.toNat = false) = (iB x.op = true /\ den L s.P p.2 x.a.toNat = false) := by
  rw [h.op]
  by_cases e : iB x.op = true
  ·have : x.op = 4 ∨ x.op = 6 ∨ x.op = 16 := by
    unfold iB at e
    simp at e
    omega
   rw [h.a' (by omega) (by omega)]
  ·simp [e]
 unfold bY
 rw [hg, h.past, h.iT]
 simp only [hn]
 rw [h.op]
theorem xK {n : Nat} {res : Bool} {L : Nat} {c c' : List CIn} (h : ∀ i, i < n -> Sm (inA c i) (inA c' i)) : ∀ (f : Nat) (s : Wst), eO n res L c' f s = eO n res L c f s
 | 0, s => rfl
 | f + 1, s => by
  rw [eO, eO]
  cases hi : cB n s.D with
  | none => rfl
  | some i =>
   simp only
   rw [(h i (least_some hi).1).look]
   split
   ·exact xK h f _
   ·rfl
structure SmP (p p' : CPg) : Prop where
 params : p'.params = p.params
 slots : p'.slots = p.slots
 caps : p'.caps = p.caps
 res : p'.res = p.res
 len : p'.code.length = p.code.length
 code : ∀ i, i < p.code.length -> Sm (inA p.code i) (inA p'.code i)
theorem SmP.way {p p' : CPg} (h : SmP p p') : dB p' = dB p := by
 unfold dB gy
 rw [h.params, h.slots, h.res, h.len]
 exact xK h.code _ _
theorem SmP.high {p p' : CPg} (h : SmP p p') : fO p' = fO p := by
 unfold fO
 rw [h.way, h.len]
def qP : CPg := ⟨1, 1, 3, false, [⟨25, 0, 0, []⟩]⟩
def lg (u : CUn) : CUn := ⟨u.ae ++ [qP], u.types⟩
def bL (l : List CPg) : Nat := (l.map fun p => p.code.length).sum
theorem pF : ∀ (l : List CPg) (n : Nat), dJ l n = decide (n < bL l)
 | [], n => by simp [dJ, bL]
 | p :: r, n => by
  rw [dJ, pF r]
  unfold bL
  rw [List.map_cons, List.sum_cons]
  split
  ·rename_i e
   rw [decide_eq_true (by omega)]
  ·exact decide_eq_decide.2 (by omega)
theorem Bt : (Tryd.prog.info? 49).map (fun i => (i.zero, i.size, i.bytes)) = some (some (.agg #[.int .i64 0, .slice none 0 0, .bool false]), 3, 40) := by kernel_rfl
theorem xL : (Tryd.prog.info? 43).map (fun i => (i.zero, i.size, i.bytes)) = some (some (.agg #[.int .i64 0, .int .i64 0, .int .i64 0, .slice none 0 0]), 4, 48) := by kernel_rfl
theorem xM : (Tryd.prog.info? 40).map (fun i => (i.zero, i.size, i.bytes)) = some (some (.agg #[.int .i64 0, .int .i64 0, .int .i64 0, .bool false, .slice none 0 0]), 5, 56) := by kernel_rfl
def pG (l : List Int) : List Value := l.map (.int .i64)
structure dz (W : World) (B g c : Nat) (l : List Int) : Prop where
 base : B <= g
 blk : ∃ cs, W.heap[g]? = some (.cells cs 3 (0, 0))
 cap : l.length + 1 <= c
 max : c <= maxLen
 at_ : ∀ i (h : i < l.length), W.cell? ⟨g, i, none⟩ = some (.int .i64 l[i])
 mark : W.cell? ⟨g, l.length, none⟩ = some (.int .i64 (-7))
theorem dz.lt {W : World} {B g c : Nat} {l : List Int} (h : dz W B g c l) : g < W.heap.size := by
 obtain ⟨cs, h1⟩ := h.blk
 exact ah h1
theorem dz.later {W W' : World} {B B' g c : Nat} {l : List Int} (h : dz W B g c l) (hb : W'.heap[g]? = W.heap[g]?) (hB : B' <= B) : dz W' B' g c l := by
 obtain ⟨cs, h1⟩ := h.blk
 have hc : ∀ i, W'.cell? ⟨g, i, none⟩ = W.cell? ⟨g, i, none⟩ := fun i => World.cell?_of_block (a := ⟨g, i, none⟩) hb
 exact ⟨Nat.le_trans hB h.base, ⟨cs, hb.trans h1⟩, h.cap, h.max, fun i hi => by rw [hc]; exact h.at_ i hi, by rw [hc]; exact h.mark⟩
theorem dz.ints {W : World} {B g c : Nat} {l : List Int} (h : dz W B g c l) : aF W W.heap.size (some ⟨g, 0, none⟩) c l :=
 ⟨by have := h.cap; omega, by have := h.cap; have := h.max; omega, fun _ => ⟨g, 0, rfl, h.lt, fun i hi => by rw [Nat.zero_add]; exact h.at_ i hi⟩⟩
theorem lh {W : World} {B s n g k c : Nat} {t : TypeId} {cs : List Value} (h : W.ownsRow B t s (.slice (some ⟨g, 0, none⟩) k c) n cs) : n <= c /\ c <= maxLen := by
 rcases h.2 with ⟨e, _⟩ | ⟨g', cap, cur, e, hB, hg, q1, q2, q3, q4⟩
 ·cases e
 ·simp only [Value.slice.injEq] at e
  obtain ⟨_, _, rfl⟩ := e
  exact ⟨q1, q2⟩
theorem jq {W : World} {B s n g k c : Nat} {t : TypeId} {cs : List Value} (h : W.ownsRow B t s (.slice (some ⟨g, 0, none⟩) k c) n cs) : ∃ cur, W.heap[g]? = some (.cells cur t (0, 0)) := by
 rcases h.2 with ⟨e, _⟩ | ⟨g', cap, cur, e, hB, hg, q1, q2, q3, q4⟩
 ·cases e
 ·simp only [Value.slice.injEq, Option.some.injEq, Addr.mk.injEq] at e
  obtain ⟨⟨rfl, _⟩, _⟩ := e
  exact ⟨cur, hg⟩
theorem mE (W : World) (B : Nat) (hB : B <= W.heap.size) (ka : Option Addr) (kc : Nat) (l : List Int) (hk : aF W B ka kc l) (hl : l.length <= 2147483647) :
  ∃ v2 W2 g c W3, (∀ ty, (Builtin.append_ #[32, 32] ty #[.slice none 0 0, .slice ka l.length kc]).run Tryd.prog W = .ok v2 W2) /\ (∀ ty, (Builtin.append_ #[32, 32] ty #[v2, .slice (some ⟨W2.heap.size, 0, none⟩) 1 1]).run Tryd.prog (W2.alloc (.cells #[.int .i64 (-7)] 3)) = .ok (.slice (some ⟨g, 0, none⟩) (l.length + 1) c) W3) /\ l.length + 1 <= c /\ dz W3 W.heap.size g c l /\ Below W.heap.size W W3 := by
 obtain ⟨i0, hi0, iz0, iz1, iz2⟩ := info_parts gQ
 have n1 : W.ownsRow W.heap.size 3 1 (.slice none 0 0) 0 [] := ⟨rfl, .inl ⟨rfl, rfl⟩⟩
 have hnews : 0 < l.length -> ∃ ad, ka = some ad /\ ∀ j u, (pG l)[j]? = some u -> W.cell? (ad.add j) = some u := fun h0 => by
  obtain ⟨b, o, e, hb, hc⟩ := hk.at_ h0
  refine ⟨⟨b, o, none⟩, e, fun j u hu => ?_⟩
  unfold pG at hu
  rw [List.getElem?_map] at hu
  obtain ⟨x, hx, rfl⟩ := Option.map_eq_some_iff.1 hu
  obtain ⟨hj, rfl⟩ := List.getElem?_eq_some_iff.1 hx
  have e2 : (⟨b, o, none⟩ : Addr).add j = ⟨b, o + j, none⟩ := by
   unfold Addr.add
   split <;> simp_all
  rw [e2]
  exact hc j hj
 obtain ⟨v2, W2, r2, n2, q2⟩ := BQ Tryd.underlying32 hi0 iz0 iz1 iz2 rfl (by decide) W W.heap.size _ 0 [] n1 ka l.length kc (pG l) (by simp [pG]) hnews (fun u hu => by
  obtain ⟨x, _, rfl⟩ := List.mem_map.1 hu
  rfl) (by unfold maxLen; omega) (by omega) (by omega)
 rw [List.nil_append, Nat.zero_add] at n2
 have b2 : Below W.heap.size W W2 := (Below.refl _ _).grown q2 (by omega) fun k hk => (aD n1 hk).1
 obtain ⟨g, c, W3, r3, n3, q3, hcp, _⟩ := app1 Tryd.underlying32 hi0 iz0 iz1 iz2 rfl (by decide) W2 W.heap.size v2 l.length _ n2 #[.int .i64 (-7)] rfl (by simp [Value.oneCell']) (by unfold maxLen; omega) (by omega) b2.size
 have b3 : Below W.heap.size W2 W3 := (Below.refl _ _).grown q3 b2.size fun k hk => (aD n2 hk).1
 refine ⟨v2, W2, g, c, W3, r2, r3, hcp, ⟨(aD n3 (g := g) rfl).1, jq n3, hcp, (lh n3).2, fun i hi => ?_, ?_⟩, b2.trans b3⟩
 ·exact dA n3 (by rw [List.getElem?_append_left (by simpa [pG] using hi)]; simp [pG, hi])
 ·exact dA n3 (by rw [List.getElem?_append_right (by simp [pG])]; simp [pG])
def nK (t : CTy) (g : Nat × Nat) : List Value := [.int .i64 t.kind, .slice (some ⟨g.1, 0, none⟩) t.kids.length g.2, .bool t.res]
def tyC : List CTy -> List (Nat × Nat) -> List Value
 | t :: r, g :: gs => nK t g ++ tyC r gs
 | _, _ => []
theorem pI : ∀ {ts : List CTy} {gs : List (Nat × Nat)} {t : CTy} {g : Nat × Nat}, gs.length = ts.length -> tyC (ts ++ [t]) (gs ++ [g]) = tyC ts gs ++ nK t g
 | [], [], t, g, _ => by simp [tyC]
 | [], _ :: _, _, _, h => by simp at h
 | _ :: _, [], _, _, h => by simp at h
 | a :: ts, b :: gs, t, g, h => by simp [tyC, pI (ts := ts) (gs := gs) (by simpa using h)]
theorem nL : ∀ (ts : List CTy) (gs : List (Nat × Nat)) (i : Nat) (h1 : i < ts.length) (h2 : i < gs.length) (j : Nat), j < 3 -> (tyC ts gs)[i * 3 + j]? = (nK ts[i] gs[i])[j]?
 | [], _, i, h1, _, _, _ => by simp at h1
 | _ :: _, [], i, _, h2, _, _ => by simp at h2
 | a :: ts, b :: gs, 0, _, _, j, hj => by
  rw [tyC, List.getElem?_append_left (by simp [nK]; omega)]
  simp
 | a :: ts, b :: gs, i + 1, h1, h2, j, hj => by
  rw [tyC, List.getElem?_append_right (by simp [nK]; omega)]
  have := nL ts gs i (by simpa using h1) (by simpa using h2) j hj
  simp only [List.getElem_cons_succ]
  rw [← this]
  congr 1
  simp [nK]
  omega
structure TsM (w W : World) (O B : Nat) (vp va : Value) (ts : List CTy) (G : List (Nat × Nat)) : Prop where
 bel : Below w.heap.size w W
 out : W.heap[O]? = some (.cells #[vp, va] 25 (0, 0))
 lo : w.heap.size <= O /\ O < B /\ B <= W.heap.size
 len : G.length = ts.length
 all : W.ownsRow B 49 3 va ts.length (tyC ts G)
 kid : ∀ i (h1 : i < ts.length) (h2 : i < G.length), dz W B G[i].1 G[i].2 ts[i].kids
structure TyR (w W W2 W3 W4 W5 : World) (E O B : Nat) (vp va va' : Value) (s : List CTy) (G : List (Nat × Nat)) (t : CTy) (ka : Option Addr) (kc : Nat) (v2 : Value) (g c : Nat) : Prop where
 c1 : (W.alloc (.cells #[.int .i64 t.kind, .slice ka t.kids.length kc, .bool t.res] 49)).cell? ⟨E, 1, none⟩ = some (.slice ka t.kids.length kc)
 l1 : E < (W.alloc (.cells #[.int .i64 t.kind, .slice ka t.kids.length kc, .bool t.res] 49)).heap.size
 r2 : ∀ ty, (Builtin.append_ #[32, 32] ty #[.slice none 0 0, .slice ka t.kids.length kc]).run Tryd.prog (W.alloc (.cells #[.int .i64 t.kind, .slice ka t.kids.length kc, .bool t.res] 49)) = .ok v2 W2
 r3 : ∀ ty, (Builtin.append_ #[32, 32] ty #[v2, .slice (some ⟨W2.heap.size, 0, none⟩) 1 1]).run Tryd.prog (W2.alloc (.cells #[.int .i64 (-7)] 3)) = .ok (.slice (some ⟨g, 0, none⟩) (t.kids.length + 1) c) W3
 cp : t.kids.length + 1 <= c
 c3 : W3.cell? ⟨E, 1, none⟩ = some (.slice ka t.kids.length kc)
 f3 : W3.frozen? ⟨E, 1, none⟩ = false
 l3 : E < W3.heap.size
 w4 : W3.setCell ⟨E, 1, none⟩ (.slice (some ⟨g, 0, none⟩) t.kids.length c) = W4
 e4 : W4.heap[E]? = some (.cells #[.int .i64 t.kind, .slice (some ⟨g, 0, none⟩) t.kids.length c, .bool t.res] 49 (0, 0))
 o4 : W4.heap[O]? = some (.cells #[vp, va] 25 (0, 0))
 r5 : ∀ ty, (Builtin.append_ #[23, 23] ty #[va, .slice (some ⟨W4.heap.size, 0, none⟩) 1 1]).run Tryd.prog (W4.alloc (.cells #[.int .i64 t.kind, .slice (some ⟨g, 0, none⟩) t.kids.length c, .bool t.res] 49)) = .ok va' W5
 o5 : W5.heap[O]? = some (.cells #[vp, va] 25 (0, 0))
 st : TsM w (W5.setCell ⟨O, 1, none⟩ va') O B vp va' (s ++ [t]) (G ++ [(g, c)])
theorem TsM.push {w W : World} {O B : Nat} {vp va : Value} {s : List CTy} {G : List (Nat × Nat)} (h : TsM w W O B vp va s G) (E : Nat) (hE : W.heap.size = E) (t : CTy) (ka : Option Addr) (kc : Nat) (hk : aF W w.heap.size ka kc t.kids) (hl : t.kids.length <= 2147483647) (hs : s.length <= 2147483647) :
  ∃ W2 W3 W4 W5 gv cv v2 g c, TyR w W W2 W3 W4 W5 E O B vp va (.slice (some ⟨gv, 0, none⟩) (s.length + 1) cv) s G t ka kc v2 g c := by
 obtain ⟨lo1, lo2, lo3⟩ := h.lo
 obtain ⟨j0, hj0, jz0, jz1, jz2⟩ := info_parts Bt
 obtain ⟨W1, hW1⟩ : ∃ W1, W.alloc (.cells #[.int .i64 t.kind, .slice ka t.kids.length kc, .bool t.res] 49) = W1 := ⟨_, rfl⟩
 have hs1 : W1.heap.size = E + 1 := by rw [← hW1, ← hE]; simp
 have b1 : Below E W W1 := by rw [← hW1, ← hE]; exact ak _ _
 have he1 : W1.heap[E]? = some (.cells #[.int .i64 t.kind, .slice ka t.kids.length kc, .bool t.res] 49 (0, 0)) := by rw [← hW1, ← hE]; exact aj _ _ _ rfl
 obtain ⟨v2, W2, g, c, W3, r2, r3, hcp, hK, b3⟩ := mE W1 w.heap.size (by omega) ka kc t.kids (hk.below (b1.mono (by omega))) hl
 rw [hs1] at hK b3
 have hs3 := b3.size
 have he3 := (b3.block E (by omega)).trans he1
 obtain ⟨W4, hW4⟩ : ∃ W4, W3.setCell ⟨E, 1, none⟩ (.slice (some ⟨g, 0, none⟩) t.kids.length c) = W4 := ⟨_, rfl⟩
 have hk4 : ∀ y, y ≠ E -> W4.heap[y]? = W3.heap[y]? := fun y hy => by rw [← hW4, Below.heap_setCell _ ⟨E, 1, none⟩ _ y hy]
 have hs4 : W4.heap.size = W3.heap.size := by rw [← hW4]; simp
 have he4 : W4.heap[E]? = some (.cells #[.int .i64 t.kind, .slice (some ⟨g, 0, none⟩) t.kids.length c, .bool t.res] 49 (0, 0)) := by
  rw [← hW4]
  have := Lib.heap_setCell_same (i := 1) he3 (.slice (some ⟨g, 0, none⟩) t.kids.length c)
  simpa using this
 have b34 : Below E W3 W4 := by
  rw [← hW4]
  exact (Below.refl E W3).setCell (p := ⟨E, 1, none⟩) (Nat.le_refl _) _
 have b14 : Below E W W4 := b1.trans ((b3.mono (by omega)).trans b34)
 have ho4 : W4.heap[O]? = some (.cells #[vp, va] 25 (0, 0)) := (b14.block O (by omega)).trans h.out
 have hK4 : dz W4 B g c t.kids := hK.later (hk4 g (by have := hK.base; omega)) (by omega)
 have hall : W4.ownsRow B 49 3 va s.length (tyC s G) := cO h.all fun y _ hy => b14.block y (by omega)
 have hkid : ∀ i (h1 : i < s.length) (h2 : i < G.length), dz W4 B G[i].1 G[i].2 s[i].kids := fun i h1 h2 => (h.kid i h1 h2).later (b14.block _ (by have := (h.kid i h1 h2).lt; omega)) (Nat.le_refl _)
 obtain ⟨gv, cv, W5, r5, n5, q5, _, _⟩ := app1 Tryd.underlying23 hj0 jz0 jz1 jz2 rfl (by decide) W4 B va s.length _ hall #[.int .i64 t.kind, .slice (some ⟨g, 0, none⟩) t.kids.length c, .bool t.res] rfl (by simp [Value.oneCell']) (by unfold maxLen; omega) (by omega) (by omega)
 have kk := bM hall
 have b5 : Below B W4 W5 := (Below.refl _ _).grown q5 (by omega) fun k hk => (aD hall hk).1
 have ho5 := (b5.block O (by omega)).trans ho4
 have hk6 : ∀ y, y ≠ O -> (W5.setCell ⟨O, 1, none⟩ (.slice (some ⟨gv, 0, none⟩) (s.length + 1) cv)).heap[y]? = W5.heap[y]? := fun y hy => Below.heap_setCell _ ⟨O, 1, none⟩ _ y hy
 have hg5 : ∀ (y : Nat) (cs : Array Value), W4.heap[y]? = some (.cells cs 3 (0, 0)) -> W5.heap[y]? = W4.heap[y]? := fun y cs hy => by
  rw [hy]
  exact dF q5 hy fun e => by
   obtain ⟨c', fz, hc'⟩ := kk y e
   rw [hy] at hc'
   simp at hc'
 have hs5 := b5.size
 refine ⟨W2, W3, W4, W5, gv, cv, v2, g, c, ⟨by rw [hW1]; exact aa he1 rfl, by rw [hW1]; omega, by rw [hW1]; exact r2, r3, hcp, aa he3 rfl, aL he3, by omega, hW4, he4, ho4, r5, ho5, ⟨?_, ?_, ⟨lo1, lo2, by simp; omega⟩, by simp [h.len], ?_, fun i h1 h2 => ?_⟩⟩⟩
 ·refine h.bel.trans ((b14.mono (by have := h.bel.size; omega)).trans ((b5.mono (by omega)).trans ?_))
  exact (Below.refl _ W5).setCell (p := ⟨O, 1, none⟩) lo1 _
 ·have := Lib.heap_setCell_same (i := 1) ho5 (.slice (some ⟨gv, 0, none⟩) (s.length + 1) cv)
  simpa using this
 ·rw [pI h.len, List.length_append]
  exact cO n5 fun y hy _ => hk6 y (by omega)
 ·have hgl := h.len
  have hkey : ∀ (gg cc : Nat) (l : List Int), dz W4 B gg cc l -> dz (W5.setCell ⟨O, 1, none⟩ (.slice (some ⟨gv, 0, none⟩) (s.length + 1) cv)) B gg cc l := fun gg cc l hq => by
   obtain ⟨cs, hb⟩ := hq.blk
   exact hq.later ((hk6 gg (by have := hq.base; omega)).trans (hg5 gg cs hb)) (Nat.le_refl _)
  by_cases hi : i < s.length
  ·have hl2 : i < G.length := by omega
   simp only [List.getElem_append_left hi, List.getElem_append_left hl2]
   exact hkey _ _ _ (hkid i hi hl2)
  ·have hie : i = s.length := by simp at h1; omega
   subst hie
   simp only [List.getElem_append_right (Nat.le_refl _), List.getElem_append_right (show G.length <= s.length by omega), hgl, Nat.sub_self, List.getElem_cons_zero]
   exact hkey _ _ _ hK4
def pJ (x : CIn) (g : Nat × Nat) : List Value := [.int .i64 x.op, .int .i64 x.a, .int .i64 x.b, .slice (some ⟨g.1, 0, none⟩) x.list.length g.2]
def inC : List CIn -> List (Nat × Nat) -> List Value
 | t :: r, g :: gs => pJ t g ++ inC r gs
 | _, _ => []
theorem pK : ∀ {ts : List CIn} {gs : List (Nat × Nat)} {t : CIn} {g : Nat × Nat}, gs.length = ts.length -> inC (ts ++ [t]) (gs ++ [g]) = inC ts gs ++ pJ t g
 | [], [], t, g, _ => by simp [inC]
 | [], _ :: _, _, _, h => by simp at h
 | _ :: _, [], _, _, h => by simp at h
 | a :: ts, b :: gs, t, g, h => by simp [inC, pK (ts := ts) (gs := gs) (by simpa using h)]
theorem xN : ∀ (ts : List CIn) (gs : List (Nat × Nat)) (i : Nat) (h1 : i < ts.length) (h2 : i < gs.length) (j : Nat), j < 4 -> (inC ts gs)[i * 4 + j]? = (pJ ts[i] gs[i])[j]?
 | [], _, i, h1, _, _, _ => by simp at h1
 | _ :: _, [], i, _, h2, _, _ => by simp at h2
 | a :: ts, b :: gs, 0, _, _, j, hj => by
  rw [inC, List.getElem?_append_left (by simp [pJ]; omega)]
  simp
 | a :: ts, b :: gs, i + 1, h1, h2, j, hj => by
  rw [inC, List.getElem?_append_right (by simp [pJ]; omega)]
  have := xN ts gs i (by simpa using h1) (by simpa using h2) j hj
  simp only [List.getElem_cons_succ]
  rw [← this]
  congr 1
  simp [pJ]
  omega
structure CdM (w W : World) (vc : Value) (s : List CIn) (G : List (Nat × Nat)) : Prop where
 bel : Below w.heap.size w W
 len : G.length = s.length
 all : W.ownsRow w.heap.size 43 4 vc s.length (inC s G)
 kid : ∀ i (h1 : i < s.length) (h2 : i < G.length), dz W w.heap.size G[i].1 G[i].2 s[i].list
structure CdR (w W W2 W3 W4 W5 : World) (E : Nat) (vc vc' : Value) (s : List CIn) (G : List (Nat × Nat)) (x : CIn) (ka : Option Addr) (kc : Nat) (v2 : Value) (g c : Nat) : Prop where
 c1 : (W.alloc (.cells #[.int .i64 x.op, .int .i64 x.a, .int .i64 x.b, .slice ka x.list.length kc] 43)).cell? ⟨E, 3, none⟩ = some (.slice ka x.list.length kc)
 l1 : E < (W.alloc (.cells #[.int .i64 x.op, .int .i64 x.a, .int .i64 x.b, .slice ka x.list.length kc] 43)).heap.size
 r2 : ∀ ty, (Builtin.append_ #[32, 32] ty #[.slice none 0 0, .slice ka x.list.length kc]).run Tryd.prog (W.alloc (.cells #[.int .i64 x.op, .int .i64 x.a, .int .i64 x.b, .slice ka x.list.length kc] 43)) = .ok v2 W2
 r3 : ∀ ty, (Builtin.append_ #[32, 32] ty #[v2, .slice (some ⟨W2.heap.size, 0, none⟩) 1 1]).run Tryd.prog (W2.alloc (.cells #[.int .i64 (-7)] 3)) = .ok (.slice (some ⟨g, 0, none⟩) (x.list.length + 1) c) W3
 cp : x.list.length + 1 <= c
 c3 : W3.cell? ⟨E, 3, none⟩ = some (.slice ka x.list.length kc)
 f3 : W3.frozen? ⟨E, 3, none⟩ = false
 l3 : E < W3.heap.size
 w4 : W3.setCell ⟨E, 3, none⟩ (.slice (some ⟨g, 0, none⟩) x.list.length c) = W4
 e4 : W4.heap[E]? = some (.cells #[.int .i64 x.op, .int .i64 x.a, .int .i64 x.b, .slice (some ⟨g, 0, none⟩) x.list.length c] 43 (0, 0))
 r5 : ∀ ty, (Builtin.append_ #[38, 38] ty #[vc, .slice (some ⟨W4.heap.size, 0, none⟩) 1 1]).run Tryd.prog (W4.alloc (.cells #[.int .i64 x.op, .int .i64 x.a, .int .i64 x.b, .slice (some ⟨g, 0, none⟩) x.list.length c] 43)) = .ok vc' W5
 st : CdM w W5 vc' (s ++ [x]) (G ++ [(g, c)])
theorem CdM.push {w W : World} {vc : Value} {s : List CIn} {G : List (Nat × Nat)} (h : CdM w W vc s G) (E : Nat) (hE : W.heap.size = E) (x : CIn) (ka : Option Addr) (kc : Nat) (hk : aF W w.heap.size ka kc x.list) (hl : x.list.length <= 2147483647) (hs : s.length <= 2147483647) :
  ∃ W2 W3 W4 W5 gv cv v2 g c, CdR w W W2 W3 W4 W5 E vc (.slice (some ⟨gv, 0, none⟩) (s.length + 1) cv) s G x ka kc v2 g c := by
 have lo := h.bel.size
 obtain ⟨j0, hj0, jz0, jz1, jz2⟩ := info_parts xL
 obtain ⟨W1, hW1⟩ : ∃ W1, W.alloc (.cells #[.int .i64 x.op, .int .i64 x.a, .int .i64 x.b, .slice ka x.list.length kc] 43) = W1 := ⟨_, rfl⟩
 have hs1 : W1.heap.size = E + 1 := by rw [← hW1, ← hE]; simp
 have b1 : Below E W W1 := by rw [← hW1, ← hE]; exact ak _ _
 have he1 : W1.heap[E]? = some (.cells #[.int .i64 x.op, .int .i64 x.a, .int .i64 x.b, .slice ka x.list.length kc] 43 (0, 0)) := by rw [← hW1, ← hE]; exact aj _ _ _ rfl
 obtain ⟨v2, W2, g, c, W3, r2, r3, hcp, hK, b3⟩ := mE W1 w.heap.size (by omega) ka kc x.list (hk.below (b1.mono (by omega))) hl
 rw [hs1] at hK b3
 have hs3 := b3.size
 have he3 := (b3.block E (by omega)).trans he1
 obtain ⟨W4, hW4⟩ : ∃ W4, W3.setCell ⟨E, 3, none⟩ (.slice (some ⟨g, 0, none⟩) x.list.length c) = W4 := ⟨_, rfl⟩
 have hk4 : ∀ y, y ≠ E -> W4.heap[y]? = W3.heap[y]? := fun y hy => by rw [← hW4, Below.heap_setCell _ ⟨E, 3, none⟩ _ y hy]
 have hs4 : W4.heap.size = W3.heap.size := by rw [← hW4]; simp
 have he4 : W4.heap[E]? = some (.cells #[.int .i64 x.op, .int .i64 x.a, .int .i64 x.b, .slice (some ⟨g, 0, none⟩) x.list.length c] 43 (0, 0)) := by
  rw [← hW4]
  have := Lib.heap_setCell_same (i := 3) he3 (.slice (some ⟨g, 0, none⟩) x.list.length c)
  simpa using this
 have b34 : Below E W3 W4 := by
  rw [← hW4]
  exact (Below.refl E W3).setCell (p := ⟨E, 3, none⟩) (Nat.le_refl _) _
 have b14 : Below E W W4 := b1.trans ((b3.mono (by omega)).trans b34)
 have hK4 : dz W4 w.heap.size g c x.list := hK.later (hk4 g (by have := hK.base; omega)) (by omega)
 have hall : W4.ownsRow w.heap.size 43 4 vc s.length (inC s G) := cO h.all fun y _ hy => b14.block y (by omega)
 have hkid : ∀ i (h1 : i < s.length) (h2 : i < G.length), dz W4 w.heap.size G[i].1 G[i].2 s[i].list := fun i h1 h2 => (h.kid i h1 h2).later (b14.block _ (by have := (h.kid i h1 h2).lt; omega)) (Nat.le_refl _)
 obtain ⟨gv, cv, W5, r5, n5, q5, _, _⟩ := app1 Tryd.underlying38 hj0 jz0 jz1 jz2 rfl (by decide) W4 w.heap.size vc s.length _ hall #[.int .i64 x.op, .int .i64 x.a, .int .i64 x.b, .slice (some ⟨g, 0, none⟩) x.list.length c] rfl (by simp [Value.oneCell']) (by unfold maxLen; omega) (by omega) (by omega)
 have kk := bM hall
 have b5 : Below w.heap.size W4 W5 := (Below.refl _ _).grown q5 (by omega) fun k hk => (aD hall hk).1
 have hg5 : ∀ (y : Nat) (cs : Array Value), W4.heap[y]? = some (.cells cs 3 (0, 0)) -> W5.heap[y]? = W4.heap[y]? := fun y cs hy => by
  rw [hy]
  exact dF q5 hy fun e => by
   obtain ⟨c', fz, hc'⟩ := kk y e
   rw [hy] at hc'
   simp at hc'
 refine ⟨W2, W3, W4, W5, gv, cv, v2, g, c, ⟨by rw [hW1]; exact aa he1 rfl, by rw [hW1]; omega, by rw [hW1]; exact r2, r3, hcp, aa he3 rfl, aL he3, by omega, hW4, he4, r5, ⟨?_, by simp [h.len], ?_, fun i h1 h2 => ?_⟩⟩⟩
 ·exact h.bel.trans ((b14.mono (by omega)).trans b5)
 ·rw [pK h.len, List.length_append]
  exact n5
 ·have hgl := h.len
  have hkey : ∀ (gg cc : Nat) (l : List Int), dz W4 w.heap.size gg cc l -> dz W5 w.heap.size gg cc l := fun gg cc l hq => by
   obtain ⟨cs, hb⟩ := hq.blk
   exact hq.later (hg5 gg cs hb) (Nat.le_refl _)
  by_cases hi : i < s.length
  ·have hl2 : i < G.length := by omega
   simp only [List.getElem_append_left hi, List.getElem_append_left hl2]
   exact hkey _ _ _ (hkid i hi hl2)
  ·have hie : i = s.length := by simp at h1; omega
   subst hie
   simp only [List.getElem_append_right (Nat.le_refl _), List.getElem_append_right (show G.length <= s.length by omega), hgl, Nat.sub_self, List.getElem_cons_zero]
   exact hkey _ _ _ hK4
structure cK (W : World) (B g c : Nat) (s : List CIn) (G : List (Nat × Nat)) : Prop where
 base : B <= g
 blk : ∃ cs, W.heap[g]? = some (.cells cs 43 (0, 0))
 cap : s.length + 1 <= c
 max : c <= maxLen
 len : G.length = s.length
 at_ : ∀ i (h1 : i < s.length) (h2 : i < G.length) j, j < 4 -> W.cell? ⟨g, i * 4 + j, none⟩ = (pJ s[i] G[i])[j]?
 mark : W.cell? ⟨g, s.length * 4, none⟩ = some (.int .i64 (-7))
 kid : ∀ i (h1 : i < s.length) (h2 : i < G.length), dz W B G[i].1 G[i].2 s[i].list
theorem cK.lt {W : World} {B g c : Nat} {s : List CIn} {G : List (Nat × Nat)} (h : cK W B g c s G) : g < W.heap.size := by
 obtain ⟨cs, h1⟩ := h.blk
 exact ah h1
theorem cK.later {W W' : World} {B B' g c : Nat} {s : List CIn} {G : List (Nat × Nat)} (h : cK W B g c s G) (hb : ∀ y cs (t : TypeId), t = 3 ∨ t = 43 -> B <= y -> W.heap[y]? = some (.cells cs t (0, 0)) -> W'.heap[y]? = W.heap[y]?) (hB : B' <= B) : cK W' B' g c s G := by
 obtain ⟨cs, h1⟩ := h.blk
 have e := hb g cs _ (.inr rfl) h.base h1
 have hc : ∀ i, W'.cell? ⟨g, i, none⟩ = W.cell? ⟨g, i, none⟩ := fun i => World.cell?_of_block (a := ⟨g, i, none⟩) e
 refine ⟨Nat.le_trans hB h.base, ⟨cs, e.trans h1⟩, h.cap, h.max, h.len, fun i a b j hj => by rw [hc]; exact h.at_ i a b j hj, by rw [hc]; exact h.mark, fun i a b => ?_⟩
 obtain ⟨cs2, k1⟩ := (h.kid i a b).blk
 exact (h.kid i a b).later (hb _ cs2 _ (.inl rfl) (h.kid i a b).base k1) hB
theorem CdM.last {w W : World} {vc : Value} {s : List CIn} {G : List (Nat × Nat)} (h : CdM w W vc s G) (hs : s.length <= 2147483647) :
  ∃ gv cv W5, (∀ ty, (Builtin.append_ #[38, 38] ty #[vc, .slice (some ⟨W.heap.size, 0, none⟩) 1 1]).run Tryd.prog (W.alloc (.cells #[.int .i64 (-7), .int .i64 0, .int .i64 0, .slice none 0 0] 43)) = .ok (.slice (some ⟨gv, 0, none⟩) (s.length + 1) cv) W5) /\ s.length + 1 <= cv /\ Below w.heap.size w W5 /\ cK W5 w.heap.size gv cv s G := by
 have lo := h.bel.size
 obtain ⟨j0, hj0, jz0, jz1, jz2⟩ := info_parts xL
 obtain ⟨gv, cv, W5, r5, n5, q5, hcp, _⟩ := app1 Tryd.underlying38 hj0 jz0 jz1 jz2 rfl (by decide) W w.heap.size vc s.length _ h.all #[.int .i64 (-7), .int .i64 0, .int .i64 0, .slice none 0 0] rfl (by simp [Value.oneCell']) (by unfold maxLen; omega) (by omega) (by omega)
 have kk := bM h.all
 have b5 : Below w.heap.size W W5 := (Below.refl _ _).grown q5 (by omega) fun k hk => (aD h.all hk).1
 have hln := h.all.1
 refine ⟨gv, cv, W5, r5, hcp, h.bel.trans b5, ⟨(aD n5 (g := gv) rfl).1, jq n5, hcp, (lh n5).2, h.len, fun i h1 h2 j hj => ?_, ?_, fun i h1 h2 => ?_⟩⟩
 ·rw [n5.cellAt (i * 4 + j) (by omega), List.getElem?_append_left (by omega)]
  exact xN s G i h1 h2 j hj
 ·rw [n5.cellAt (s.length * 4) (by omega), List.getElem?_append_right (by omega), hln, Nat.sub_self]
  rfl
 ·obtain ⟨cs, hb⟩ := (h.kid i h1 h2).blk
  refine (h.kid i h1 h2).later ?_ (Nat.le_refl _)
  rw [hb]
  exact dF q5 hb fun e => by
   obtain ⟨c', fz, hc'⟩ := kk _ e
   rw [hb] at hc'
   simp at hc'
abbrev PG := (Nat × Nat) × List (Nat × Nat)
def nM (p : CPg) (g : PG) : List Value := [.int .i64 p.params, .int .i64 p.slots, .int .i64 p.caps, .bool p.res, .slice (some ⟨g.1.1, 0, none⟩) p.code.length g.1.2]
def pgL : List CPg -> List PG -> List Value
 | t :: r, g :: gs => nM t g ++ pgL r gs
 | _, _ => []
theorem lm : ∀ {ts : List CPg} {gs : List PG} {t : CPg} {g : PG}, gs.length = ts.length -> pgL (ts ++ [t]) (gs ++ [g]) = pgL ts gs ++ nM t g
 | [], [], t, g, _ => by simp [pgL]
 | [], _ :: _, _, _, h => by simp at h
 | _ :: _, [], _, _, h => by simp at h
 | a :: ts, b :: gs, t, g, h => by simp [pgL, lm (ts := ts) (gs := gs) (by simpa using h)]
theorem lq : ∀ (ts : List CPg) (gs : List PG) (i : Nat) (h1 : i < ts.length) (h2 : i < gs.length) (j : Nat), j < 5 -> (pgL ts gs)[i * 5 + j]? = (nM ts[i] gs[i])[j]?
 | [], _, i, h1, _, _, _ => by simp at h1
 | _ :: _, [], i, _, h2, _, _ => by simp at h2
 | a :: ts, b :: gs, 0, _, _, j, hj => by
  rw [pgL, List.getElem?_append_left (by simp [nM]; omega)]
  simp
 | a :: ts, b :: gs, i + 1, h1, h2, j, hj => by
  rw [pgL, List.getElem?_append_right (by simp [nM]; omega)]
  have := lq ts gs i (by simpa using h1) (by simpa using h2) j hj
  simp only [List.getElem_cons_succ]
  rw [← this]
  congr 1
  simp [nM]
  omega
structure PgM (w W : World) (O B : Nat) (vp va : Value) (ts : List CTy) (G : List (Nat × Nat)) (ps : List CPg) (C : List PG) : Prop where
 bel : Below w.heap.size w W
 out : W.heap[O]? = some (.cells #[vp, va] 25 (0, 0))
 lo : w.heap.size <= O /\ O < B /\ B <= W.heap.size
 tlen : G.length = ts.length
 tall : W.ownsRow B 49 3 va ts.length (tyC ts G)
 tkid : ∀ i (h1 : i < ts.length) (h2 : i < G.length), dz W B G[i].1 G[i].2 ts[i].kids
 len : C.length = ps.length
 all : W.ownsRow B 40 5 vp ps.length (pgL ps C)
 cod : ∀ i (h1 : i < ps.length) (h2 : i < C.length), cK W B C[i].1.1 C[i].1.2 ps[i].code C[i].2
 ord : ∀ i j (hi : i < C.length) (hj : j < C.length), i < j -> C[i].1.1 < C[j].1.1
theorem TsM.ae {w W : World} {O B : Nat} {va : Value} {ts : List CTy} {G : List (Nat × Nat)} (h : TsM w W O B (.slice none 0 0) va ts G) : PgM w W O B (.slice none 0 0) va ts G [] [] :=
 ⟨h.bel, h.out, h.lo, h.len, h.all, h.kid, rfl, ⟨by simp [pgL], .inl ⟨rfl, rfl⟩⟩, fun i h1 => by simp at h1, fun i j hi => by simp at hi⟩
structure PgR (w W W5 W6 W7 : World) (E O B : Nat) (vp va vp' : Value) (ts : List CTy) (G : List (Nat × Nat)) (ps : List CPg) (C : List PG) (p : CPg) (ca : Option Addr) (cc gv cv : Nat) (K : List (Nat × Nat)) : Prop where
 c5 : W5.cell? ⟨E, 4, none⟩ = some (.slice ca p.code.length cc)
 f5 : W5.frozen? ⟨E, 4, none⟩ = false
 l5 : E < W5.heap.size
 w6 : W5.setCell ⟨E, 4, none⟩ (.slice (some ⟨gv, 0, none⟩) p.code.length cv) = W6
 e6 : W6.heap[E]? = some (.cells #[.int .i64 p.params, .int .i64 p.slots, .int .i64 p.caps, .bool p.res, .slice (some ⟨gv, 0, none⟩) p.code.length cv] 40 (0, 0))
 o6 : W6.heap[O]? = some (.cells #[vp, va] 25 (0, 0))
 r7 : ∀ ty, (Builtin.append_ #[22, 22] ty #[vp, .slice (some ⟨W6.heap.size, 0, none⟩) 1 1]).run Tryd.prog (W6.alloc (.cells #[.int .i64 p.params, .int .i64 p.slots, .int .i64 p.caps, .bool p.res, .slice (some ⟨gv, 0, none⟩) p.code.length cv] 40)) = .ok vp' W7
 o7 : W7.heap[O]? = some (.cells #[vp, va] 25 (0, 0))
 st : PgM w (W7.setCell ⟨O, 0, none⟩ vp') O B vp' va ts G (ps ++ [p]) (C ++ [((gv, cv), K)])
theorem PgM.push {w W W1 W5 : World} {O B : Nat} {vp va : Value} {ts : List CTy} {G : List (Nat × Nat)} {ps : List CPg} {C : List PG} (h : PgM w W O B vp va ts G ps C) (E : Nat) (hE : W.heap.size = E) (p : CPg) (ca : Option Addr) (cc gv cv : Nat) (K : List (Nat × Nat))
  (hW1 : W.alloc (.cells #[.int .i64 p.params, .int .i64 p.slots, .int .i64 p.caps, .bool p.res, .slice ca p.code.length cc] 40) = W1) (b5 : Below W1.heap.size W1 W5) (hC : cK W5 W1.heap.size gv cv p.code K) (hs : ps.length <= 2147483647) :
  ∃ W6 W7 gp cp, PgR w W W5 W6 W7 E O B vp va (.slice (some ⟨gp, 0, none⟩) (ps.length + 1) cp) ts G ps C p ca cc gv cv K := by
 obtain ⟨lo1, lo2, lo3⟩ := h.lo
 obtain ⟨j0, hj0, jz0, jz1, jz2⟩ := info_parts xM
 have hs1 : W1.heap.size = E + 1 := by rw [← hW1, ← hE]; simp
 have b1 : Below E W W1 := by rw [← hW1, ← hE]; exact ak _ _
 have he1 : W1.heap[E]? = some (.cells #[.int .i64 p.params, .int .i64 p.slots, .int .i64 p.caps, .bool p.res, .slice ca p.code.length cc] 40 (0, 0)) := by rw [← hW1, ← hE]; exact aj _ _ _ rfl
 rw [hs1] at b5 hC
 have hs5 := b5.size
 have he5 := (b5.block E (by omega)).trans he1
 obtain ⟨W6, hW6⟩ : ∃ W6, W5.setCell ⟨E, 4, none⟩ (.slice (some ⟨gv, 0, none⟩) p.code.length cv) = W6 := ⟨_, rfl⟩
 have hk6 : ∀ y, y ≠ E -> W6.heap[y]? = W5.heap[y]? := fun y hy => by rw [← hW6, Below.heap_setCell _ ⟨E, 4, none⟩ _ y hy]
 have hs6 : W6.heap.size = W5.heap.size := by rw [← hW6]; simp
 have he6 : W6.heap[E]? = some (.cells #[.int .i64 p.params, .int .i64 p.slots, .int .i64 p.caps, .bool p.res, .slice (some ⟨gv, 0, none⟩) p.code.length cv] 40 (0, 0)) := by
  rw [← hW6]
  have := Lib.heap_setCell_same (i := 4) he5 (.slice (some ⟨gv, 0, none⟩) p.code.length cv)
  simpa using this
 have b56 : Below E W5 W6 := by
  rw [← hW6]
  exact (Below.refl E W5).setCell (p := ⟨E, 4, none⟩) (Nat.le_refl _) _
 have b16 : Below E W W6 := b1.trans ((b5.mono (by omega)).trans b56)
 have ho6 : W6.heap[O]? = some (.cells #[vp, va] 25 (0, 0)) := (b16.block O (by omega)).trans h.out
 have hC6 : cK W6 B gv cv p.code K := hC.later (fun y cs t _ hy _ => hk6 y (by omega)) (by omega)
 have hall : W6.ownsRow B 40 5 vp ps.length (pgL ps C) := cO h.all fun y _ hy => b16.block y (by omega)
 have htall : W6.ownsRow B 49 3 va ts.length (tyC ts G) := cO h.tall fun y _ hy => b16.block y (by omega)
 have htkid : ∀ i (h1 : i < ts.length) (h2 : i < G.length), dz W6 B G[i].1 G[i].2 ts[i].kids := fun i h1 h2 => (h.tkid i h1 h2).later (b16.block _ (by have := (h.tkid i h1 h2).lt; omega)) (Nat.le_refl _)
 have hcod : ∀ i (h1 : i < ps.length) (h2 : i < C.length), cK W6 B C[i].1.1 C[i].1.2 ps[i].code C[i].2 := fun i h1 h2 => (h.cod i h1 h2).later (fun y cs t _ hy hb => b16.block y (by have := ah hb; omega)) (Nat.le_refl _)
 obtain ⟨gp, cp, W7, r7, n7, q7, _, _⟩ := app1 Tryd.underlying22 hj0 jz0 jz1 jz2 rfl (by decide) W6 B vp ps.length _ hall #[.int .i64 p.params, .int .i64 p.slots, .int .i64 p.caps, .bool p.res, .slice (some ⟨gv, 0, none⟩) p.code.length cv] rfl (by simp [Value.oneCell']) (by unfold maxLen; omega) (by omega) (by omega)
 have kk := bM hall
 have b7 : Below B W6 W7 := (Below.refl _ _).grown q7 (by omega) fun k hk => (aD hall hk).1
 have ho7 := (b7.block O (by omega)).trans ho6
 have hs7 := b7.size
 have hk8 : ∀ y, y ≠ O -> (W7.setCell ⟨O, 0, none⟩ (.slice (some ⟨gp, 0, none⟩) (ps.length + 1) cp)).heap[y]? = W7.heap[y]? := fun y hy => Below.heap_setCell _ ⟨O, 0, none⟩ _ y hy
 have hg7 : ∀ (y : Nat) (cs : Array Value) (t : TypeId), t = 3 ∨ t = 43 -> W6.heap[y]? = some (.cells cs t (0, 0)) -> W7.heap[y]? = W6.heap[y]? := fun y cs t ht hy => by
  rw [hy]
  exact dF q7 hy fun e => by
   obtain ⟨c', fz, hc'⟩ := kk y e
   rw [hy] at hc'
   simp at hc'
   rcases ht with rfl | rfl
   ·exact absurd hc'.2.1 (by decide)
   ·exact absurd hc'.2.1 (by decide)
 have h78 : ∀ (y : Nat) (cs : Array Value) (t : TypeId), t = 3 ∨ t = 43 -> B <= y -> W6.heap[y]? = some (.cells cs t (0, 0)) -> (W7.setCell ⟨O, 0, none⟩ (.slice (some ⟨gp, 0, none⟩) (ps.length + 1) cp)).heap[y]? = W6.heap[y]? := fun y cs t ht hB hy => (hk8 y (by omega)).trans (hg7 y cs t ht hy)
 have hkey : ∀ (gg cc : Nat) (l : List Int), dz W6 B gg cc l -> dz (W7.setCell ⟨O, 0, none⟩ (.slice (some ⟨gp, 0, none⟩) (ps.length + 1) cp)) B gg cc l := fun gg cc l hq => by
  obtain ⟨cs, hb⟩ := hq.blk
  exact hq.later (h78 gg cs _ (.inl rfl) hq.base hb) (Nat.le_refl _)
 have hcey : ∀ (gg cc : Nat) (l : List CIn) (k : List (Nat × Nat)), cK W6 B gg cc l k -> cK (W7.setCell ⟨O, 0, none⟩ (.slice (some ⟨gp, 0, none⟩) (ps.length + 1) cp)) B gg cc l k := fun gg cc l k hq => hq.later h78 (Nat.le_refl _)
 refine ⟨W6, W7, gp, cp, ⟨aa he5 rfl, aL he5, by omega, hW6, he6, ho6, r7, ho7, ⟨?_, ?_, ⟨lo1, lo2, by simp; omega⟩, h.tlen, ?_, fun i h1 h2 => hkey _ _ _ (htkid i h1 h2), by simp [h.len], ?_, fun i h1 h2 => ?_, fun i j hi hj hij => ?_⟩⟩⟩
 ·refine h.bel.trans ((b16.mono (by have := h.bel.size; omega)).trans ((b7.mono (by omega)).trans ?_))
  exact (Below.refl _ W7).setCell (p := ⟨O, 0, none⟩) lo1 _
 ·have := Lib.heap_setCell_same (i := 0) ho7 (.slice (some ⟨gp, 0, none⟩) (ps.length + 1) cp)
  simpa using this
 ·exact cO (kH htall q7 (by decide) kk) fun y hy _ => hk8 y (by omega)
 ·rw [lm h.len, List.length_append]
  exact cO n7 fun y hy _ => hk8 y (by omega)
 ·have hgl := h.len
  by_cases hi : i < ps.length
  ·have hl2 : i < C.length := by omega
   simp only [List.getElem_append_left hi, List.getElem_append_left hl2]
   exact hcey _ _ _ _ (hcod i hi hl2)
  ·have hie : i = ps.length := by simp at h1; omega
   subst hie
   simp only [List.getElem_append_right (Nat.le_refl _), List.getElem_append_right (show C.length <= ps.length by omega), hgl, Nat.sub_self, List.getElem_cons_zero]
   exact hcey _ _ _ _ hC6
 ·have hgl := h.len
  have hi2 : i < C.length := by simp at hj; omega
  have hlt := (h.cod i (by omega) hi2).lt
  have hb := hC.base
  by_cases hj2 : j < C.length
  ·simp only [List.getElem_append_left hi2, List.getElem_append_left hj2]
   exact h.ord i j hi2 hj2 hij
  ·have hje : j = C.length := by simp at hj; omega
   subst hje
   simp only [List.getElem_append_left hi2, List.getElem_append_right (Nat.le_refl _), Nat.sub_self, List.getElem_cons_zero]
   omega
end Go.Proofs.YtadmpgegolmkgaaDoor
