import Derived.Test.YtecodpdfckjalaaGreatDoorYTTx
import Derived.Test.YtecodpdfckjalaaGreatDoorYCovQ
import Derived.Test.YtecodpdfckjalaaGreatDoorYRNum
import Derived.Test.YtecodpdfckjalaaGreatDoorYTKidP
import Derived.Test.YtecodpdfckjalaaGreatDoorYTNum
import Derived.Test.YtecodpdfckjalaaGreatDoorYNumP
import Derived.Test.YtecodpdfckjalaaGreatDoorYSign
import Derived.WalkSmall
import Derived.Lib.LaidTab
set_option linter.unusedVariables false
set_option linter.unusedSimpArgs false
set_option maxHeartbeats 4000000
set_option maxRecDepth 100000
namespace Go.Proofs.YtecodpdfckjalaaGreatDoor
open Go.RowKit
theorem fE {l : List Nd} {j : Nat} {kd0 num : Int} {nm : List UInt8} {ks : List Nat} (F : dm l j kd0 num nm ks) (hs : gL kd0 = true) (h41 : kd0 ≠ 41) (h36 : kd0 ≠ 36) (hp : ∀ rest, kd rest ≠ 15 -> P .stmt (tkk l j ++ rest) [aD l j] rest) (hf : ∃ t r, tkk l j = t :: r /\ oJ t.kind = true) : bE l j := by
 have hr : 31 <= kd0 /\ kd0 <= 41 := by unfold gL at hs; simpa using hs
 have hkd := F.kind
 have hlv : lev l j = 0 := by
  rw [F.lv]
  unfold bT bq
  rw [if_neg (by omega), if_neg (by omega), if_neg (by omega), if_neg (by simp; omega)]
 refine ⟨?_, ?_, ?_, fun h => by omega, fun h => by omega, fun h => by omega, ?_, ?_, ?_, ?_, ?_, fun _ => ⟨hp, hf⟩, ?_, ?_⟩
 ·intro h; unfold fF at h; simp at h; omega
 ·intro h; unfold fF at h; simp at h; omega
 ·intro h; omega
 ·intro h; unfold bq at h; simp at h; omega
 ·intro h; unfold bq at h; simp at h; omega
 ·intro h; omega
 ·intro h; omega
 ·intro h; omega
 ·intro h; unfold om at h; simp at h; omega
 ·intro h; omega
theorem KJ {l : List Nd} {k : Nat} {s : List ai} (h : Ma l k) : ∃ t r, tkk l k ++ s = t :: r /\ oJ t.kind = true := by
 obtain ⟨t, r, e, h1, _⟩ := h.ex
 exact ⟨t, r ++ s, by rw [e]; rfl, by unfold oJ; rw [h1]; simp⟩
theorem KL {l : List Nd} {k : Nat} {t : ai} {r s : List ai} (e : tkk l k = t :: r) : (hd (tkk l k ++ s)).place = 0 := by
 have h1 : hd (tkk l k ++ s) = t := by rw [e]; rfl
 have h2 : t ∈ tkk l k := by rw [e]; exact List.mem_cons_self
 unfold tkk at h2
 obtain ⟨x, _, hx⟩ := List.mem_map.1 h2
 rw [h1, ← hx]
 rfl
theorem Iy {l : List Nd} {j : Nat} {num : Int} {nm : List UInt8} {ks : List Nat} (F : dm l j 31 num nm ks) (IH : ∀ x ∈ ks, bE l x) : bE l j := by
 obtain rfl : num = 0 := by simpa using (show (num == 0) = true from F.numF)
 have hnm : bQ nm = true := F.name
 have kn := pm hnm
 have hfit := F.fit
 unfold aA at hfit
 rw [qF] at hfit
 obtain ⟨k0, h0, rfl⟩ := oI hfit
 have ht : tkk l j = aF [118, 97, 108] :: aF nm :: aF [61] :: (tkk l k0 ++ [aF [59]]) := by
  rw [F.tok, rR]
  simp only [List.map_append, List.map_cons, List.map_nil, bv, bB, aV, bz, dB, di, List.append_nil, List.cons_append, List.nil_append, List.append_assoc, List.take_succ_cons, List.take_zero, List.drop_succ_cons, List.drop_zero]
 have ha : aD l j = .mk 31 0 0 nm [aD l k0] := F.tree
 have kq := k28
 refine fE F rfl (by decide) (by decide) (fun rest hr => ?_) ⟨_, _, ht, by rw [kq]; rfl⟩
 rw [ha]
 simp only [ht, List.append_assoc, List.cons_append, List.nil_append]
 exact LP k28 kn k50 k47 (dX (IH k0 (by simp)) h0 (fD k47 rfl))
theorem Iz {l : List Nd} {j : Nat} {num : Int} {nm : List UInt8} {ks : List Nat} (F : dm l j 32 num nm ks) (IH : ∀ x ∈ ks, bE l x) : bE l j := by
 obtain rfl : num = 0 := by simpa using (show (num == 0) = true from F.numF)
 have hnm : bQ nm = true := F.name
 have kn := pm hnm
 have hfit := F.fit
 unfold aA at hfit
 rw [mF] at hfit
 have kq := k29
 rcases Jo hfit with ⟨k0, h0, rfl⟩ | ⟨k0, k1, h0, h1, rfl⟩
 ·have ht : tkk l j = aF [118, 97, 114] :: aF nm :: aF [58] :: (tkk l k0 ++ [aF [59]]) := by
   rw [F.tok, lh]
   simp [bv, aV, bz]
  have ha : aD l j = .mk 32 0 0 nm [aD l k0] := F.tree
  refine fE F rfl (by decide) (by decide) (fun rest hr => ?_) ⟨_, _, ht, by rw [kq]; rfl⟩
  rw [ha]
  simp only [ht, List.append_assoc, List.cons_append, List.nil_append]
  exact J9 k29 kn k48 k47 ((IH k0 (by simp)).typ h0 _ (by show (aF [59]).kind ≠ 48; rw [k47]; decide))
 ·have ht : tkk l j = aF [118, 97, 114] :: aF nm :: aF [58] :: (tkk l k0 ++ aF [61] :: (tkk l k1 ++ [aF [59]])) := by
   rw [F.tok, lh]
   simp [bv, aV, bz]
  have ha : aD l j = .mk 32 0 0 nm ([aD l k0] ++ [aD l k1]) := F.tree
  refine fE F rfl (by decide) (by decide) (fun rest hr => ?_) ⟨_, _, ht, by rw [kq]; rfl⟩
  rw [ha]
  simp only [ht, List.append_assoc, List.cons_append, List.nil_append]
  exact Ka k29 kn k48 k50 k47 ((IH k0 (by simp)).typ h0 _ (by show (aF [61]).kind ≠ 48; rw [k50]; decide)) (dX (IH k1 (by simp)) h1 (fD k47 rfl))
theorem IA {l : List Nd} {j : Nat} {num : Int} {nm : List UInt8} {ks : List Nat} (F : dm l j 33 num nm ks) (IH : ∀ x ∈ ks, bE l x) : bE l j := by
 obtain rfl : num = 0 := by simpa using (show (num == 0) = true from F.numF)
 obtain rfl : nm = [] := List.isEmpty_iff.1 (show nm.isEmpty = true from F.name)
 have hfit := F.fit
 unfold aA at hfit
 rw [mG] at hfit
 obtain ⟨k0, k1, h0, h1, rfl⟩ := sM hfit
 have ht : tkk l j = tkk l k0 ++ aF [61] :: (tkk l k1 ++ [aF [59]]) := by
  rw [F.tok, rT]
  simp [bv, aV, bz]
 have ha : aD l j = .mk 33 0 0 [] ([aD l k0] ++ [aD l k1]) := F.tree
 have c0 := IH k0 (by simp)
 have hf := c0.fst h0
 obtain ⟨t, r, e, h2, _⟩ := hf.ex
 have hne := jP h2
 refine fE F rfl (by decide) (by decide) (fun rest hr => ?_) (by rw [ht]; exact KJ hf)
 rw [ha]
 simp only [ht, List.append_assoc, List.cons_append, List.nil_append]
 have hk := gm (s := aF [61] :: (tkk l k1 ++ aF [59] :: rest)) e
 exact LU k50 k47 (by omega) (by omega) (by omega) (by omega) (by omega) (by omega) (by omega) (by omega) (dX c0 h0 (fD k50 rfl)) (dX (IH k1 (by simp)) h1 (fD k47 rfl))
theorem IB {l : List Nd} {j : Nat} {num : Int} {nm : List UInt8} {ks : List Nat} (F : dm l j 34 num nm ks) (IH : ∀ x ∈ ks, bE l x) : bE l j := by
 obtain rfl : num = 0 := by simpa using (show (num == 0) = true from F.numF)
 obtain rfl : nm = [] := List.isEmpty_iff.1 (show nm.isEmpty = true from F.name)
 have hfit := F.fit
 unfold aA at hfit
 rw [mH] at hfit
 obtain ⟨k0, k1, h0, h1, rfl⟩ := sM hfit
 have ht : tkk l j = tkk l k0 ++ aF [60, 45, 61] :: (tkk l k1 ++ [aF [59]]) := by
  rw [F.tok, rU]
  simp [bv, aV, bz]
 have ha : aD l j = .mk 34 0 0 [] ([aD l k0] ++ [aD l k1]) := F.tree
 have c0 := IH k0 (by simp)
 have hf := c0.fst h0
 obtain ⟨t, r, e, h2, _⟩ := hf.ex
 have hne := jP h2
 refine fE F rfl (by decide) (by decide) (fun rest hr => ?_) (by rw [ht]; exact KJ hf)
 rw [ha]
 simp only [ht, List.append_assoc, List.cons_append, List.nil_append]
 have hk := gm (s := aF [60, 45, 61] :: (tkk l k1 ++ aF [59] :: rest)) e
 exact Ke k66 k47 (by omega) (by omega) (by omega) (by omega) (by omega) (by omega) (by omega) (by omega) (dX c0 h0 (fD k66 rfl)) (dX (IH k1 (by simp)) h1 (fD k47 rfl))
theorem IC {l : List Nd} {j : Nat} {num : Int} {nm : List UInt8} {ks : List Nat} (F : dm l j 35 num nm ks) (IH : ∀ x ∈ ks, bE l x) : bE l j := by
 obtain rfl : num = 0 := by simpa using (show (num == 0) = true from F.numF)
 obtain rfl : nm = [] := List.isEmpty_iff.1 (show nm.isEmpty = true from F.name)
 have hfit := F.fit
 unfold aA at hfit
 rw [qG] at hfit
 obtain ⟨k0, h0, rfl⟩ := oI hfit
 have ht : tkk l j = tkk l k0 ++ [aF [59]] := by
  rw [F.tok, rV]
  simp [bv, aV, bz]
 have ha : aD l j = .mk 35 0 0 [] [aD l k0] := F.tree
 have c0 := IH k0 (by simp)
 have hf := c0.fst h0
 obtain ⟨t, r, e, h2, _⟩ := hf.ex
 have hne := jP h2
 refine fE F rfl (by decide) (by decide) (fun rest hr => ?_) (by rw [ht]; exact KJ hf)
 rw [ha]
 simp only [ht, List.append_assoc, List.cons_append, List.nil_append]
 have hk := gm (s := aF [59] :: rest) e
 have hpl : (hd (tkk l k0 ++ aF [59] :: rest)).place = 0 := KL e
 have := MR k47 (by omega) (by omega) (by omega) (by omega) (by omega) (by omega) (by omega) (by omega) (dX c0 h0 (fD k47 rfl : End (aF [59] :: rest)))
 rw [hpl] at this
 exact this
theorem IE {l : List Nd} {j : Nat} {num : Int} {nm : List UInt8} {ks : List Nat} (F : dm l j 36 num nm ks) (IH : ∀ x ∈ ks, bE l x) : bE l j := by
 obtain rfl : num = 0 := by simpa using (show (num == 0) = true from F.numF)
 obtain rfl : nm = [] := List.isEmpty_iff.1 (show nm.isEmpty = true from F.name)
 have hfit := F.fit
 unfold aA at hfit
 rw [mI] at hfit
 have kq := k18
 have key : (∀ rest, kd rest ≠ 15 -> P .branch (tkk l j ++ rest) [aD l j] rest) /\ ∃ r, tkk l j = aF [105, 102] :: r := by
  rcases Jp hfit with ⟨k0, k1, h0, h1, rfl⟩ | ⟨k0, k1, k2, h0, h1, h2, rfl⟩
  ·have ht : tkk l j = aF [105, 102] :: (tkk l k0 ++ tkk l k1) := by
    rw [F.tok, ll]
    simp [bv, aV, bz]
   have ha : aD l j = .mk 36 0 0 [] ([aD l k0] ++ [aD l k1]) := F.tree
   obtain ⟨hb, t, r, e, hk⟩ := ((IH k1 (by simp)).blk (by simpa [dN] using h1))
   refine ⟨fun rest hr => ?_, _, ht⟩
   rw [ha]
   simp only [ht, List.append_assoc, List.cons_append, List.nil_append]
   exact LW k18 (dX (IH k0 (by simp)) h0 (by rw [e]; exact fD hk rfl)) (hb rest) hr
  ·have ht : tkk l j = aF [105, 102] :: (tkk l k0 ++ (tkk l k1 ++ aF [101, 108, 115, 101] :: tkk l k2)) := by
    rw [F.tok, ll]
    simp [bv, aV, bz]
   have ha : aD l j = .mk 36 0 0 [] ([aD l k0] ++ ([aD l k1] ++ [aD l k2])) := F.tree
   obtain ⟨hb, t, r, e, hk⟩ := ((IH k1 (by simp)).blk (by simpa [dN] using h1))
   have h2' : kdN l k2 = 41 ∨ kdN l k2 = 36 := by simpa [mV] using h2
   refine ⟨fun rest hr => ?_, _, ht⟩
   rw [ha]
   simp only [ht, List.append_assoc, List.cons_append, List.nil_append]
   have he := dX (IH k0 (by simp)) h0 (rest := tkk l k1 ++ aF [101, 108, 115, 101] :: (tkk l k2 ++ rest)) (by rw [e]; exact fD hk rfl)
   rcases h2' with h2' | h2'
   ·obtain ⟨hb2, t2, r2, e2, hk2⟩ := (IH k2 (by simp)).blk h2'
    exact Kh k18 k15 he (hb _) (by rw [gm e2]; omega) (hb2 rest)
   ·obtain ⟨hb2, t2, r2, e2, hk2⟩ := (IH k2 (by simp)).br h2'
    exact Kg k18 k15 he (hb _) (by rw [gm e2]; omega) (hb2 rest hr)
 obtain ⟨hbr, r, ht⟩ := key
 have hkd := F.kind
 refine ⟨?_, ?_, ?_, ?_, ?_, ?_, ?_, ?_, ?_, ?_, fun _ => ⟨hbr, _, _, ht, kq⟩, fun _ => ⟨fun rest hr => ?_, _, _, ht, by rw [kq]; rfl⟩, ?_, ?_⟩
 ·intro h; rw [hkd] at h; exact absurd h (by decide)
 ·intro h; rw [hkd] at h; exact absurd h (by decide)
 ·intro h; omega
 ·intro h; rw [F.lv] at h; exact absurd (show (7 : Int) <= 0 from h) (by decide)
 ·intro h; rw [F.lv] at h; exact absurd (show (6 : Int) <= 0 from h) (by decide)
 ·intro h; rw [F.lv] at h; exact absurd (show (1 : Int) <= 0 from h) (by decide)
 ·intro h; rw [hkd] at h; exact absurd h (by decide)
 ·intro h; rw [hkd] at h; exact absurd h (by decide)
 ·intro h; omega
 ·intro h; omega
 ·have := hbr rest hr
  rw [ht] at this ⊢
  exact LQ k18 this
 ·intro h; rw [hkd] at h; exact absurd h (by decide)
 ·intro h; omega
theorem IG {l : List Nd} {j : Nat} {num : Int} {nm : List UInt8} {ks : List Nat} (F : dm l j 37 num nm ks) (IH : ∀ x ∈ ks, bE l x) : bE l j := by
 obtain rfl : num = 0 := by simpa using (show (num == 0) = true from F.numF)
 obtain rfl : nm = [] := List.isEmpty_iff.1 (show nm.isEmpty = true from F.name)
 have hfit := F.fit
 unfold aA at hfit
 rw [qH] at hfit
 obtain ⟨k0, k1, h0, h1, rfl⟩ := sM hfit
 obtain ⟨hb, t, r, e, hk⟩ := ((IH k1 (by simp)).blk (by simpa [dN] using h1))
 have ht : tkk l j = aF [119, 104, 105, 108, 101] :: (tkk l k0 ++ tkk l k1) := by
  rw [F.tok, rW]
  simp only [List.map_append, List.map_cons, List.map_nil, bv, bB, aV, bz, dB, di, List.append_nil, List.cons_append, List.nil_append, List.append_assoc, List.take_succ_cons, List.take_zero, List.drop_succ_cons, List.drop_zero]
 have ha : aD l j = .mk 37 0 0 [] ([aD l k0] ++ [aD l k1]) := F.tree
 have kq := k30
 refine fE F rfl (by decide) (by decide) (fun rest hr => ?_) ⟨_, _, ht, by rw [kq]; rfl⟩
 rw [ha]
 simp only [ht, List.append_assoc, List.cons_append, List.nil_append]
 exact Ha k30 (dX (IH k0 (by simp)) h0 (by rw [e]; exact fD hk rfl)) (hb rest)
theorem II {l : List Nd} {j : Nat} {num : Int} {nm : List UInt8} {ks : List Nat} (F : dm l j 38 num nm ks) (IH : ∀ x ∈ ks, bE l x) : bE l j := by
 obtain rfl : num = 0 := by simpa using (show (num == 0) = true from F.numF)
 obtain rfl : nm = [] := List.isEmpty_iff.1 (show nm.isEmpty = true from F.name)
 have hfit := F.fit
 unfold aA at hfit
 rw [qI] at hfit
 have kq := k24
 rcases L8 hfit with rfl | ⟨k0, h0, rfl⟩
 ·have ht : tkk l j = [aF [114, 101, 116, 117, 114, 110], aF [59]] := by
   rw [F.tok, nQ]
   simp [bv, bz]
  have ha : aD l j = .mk 38 0 0 [] [] := F.tree
  refine fE F rfl (by decide) (by decide) (fun rest hr => ?_) ⟨_, _, ht, by rw [kq]; rfl⟩
  rw [ha, ht]
  exact Kb k24 k47
 ·have ht : tkk l j = aF [114, 101, 116, 117, 114, 110] :: (tkk l k0 ++ [aF [59]]) := by
   rw [F.tok, nQ]
   simp [bv, aV, bz]
  have ha : aD l j = .mk 38 0 0 [] [aD l k0] := F.tree
  have c0 := IH k0 (by simp)
  obtain ⟨t, r, e, h2, _⟩ := (c0.fst h0).ex
  have hne := jP h2
  refine fE F rfl (by decide) (by decide) (fun rest hr => ?_) ⟨_, _, ht, by rw [kq]; rfl⟩
  rw [ha]
  simp only [ht, List.append_assoc, List.cons_append, List.nil_append]
  exact Kc k24 k47 (by rw [gm e]; omega) (dX c0 h0 (fD k47 rfl))
theorem IJ {l : List Nd} {j : Nat} {num : Int} {nm : List UInt8} {ks : List Nat} (F : dm l j 39 num nm ks) (IH : ∀ x ∈ ks, bE l x) : bE l j := by
 obtain rfl : num = 0 := by simpa using (show (num == 0) = true from F.numF)
 obtain rfl : nm = [] := List.isEmpty_iff.1 (show nm.isEmpty = true from F.name)
 have hfit := F.fit
 unfold aA at hfit
 rw [qJ] at hfit
 obtain ⟨k0, h0, rfl⟩ := oI hfit
 have ht : tkk l j = aF [98, 101, 103, 105, 110] :: (tkk l k0 ++ [aF [59]]) := by
  rw [F.tok, rX]
  simp only [List.map_append, List.map_cons, List.map_nil, bv, bB, aV, bz, dB, di, List.append_nil, List.cons_append, List.nil_append, List.append_assoc, List.take_succ_cons, List.take_zero, List.drop_succ_cons, List.drop_zero]
 have ha : aD l j = .mk 39 0 0 [] [aD l k0] := F.tree
 have kq := k11
 refine fE F rfl (by decide) (by decide) (fun rest hr => ?_) ⟨_, _, ht, by rw [kq]; rfl⟩
 rw [ha]
 simp only [ht, List.append_assoc, List.cons_append, List.nil_append]
 exact Hd k11 k47 (dX (IH k0 (by simp)) h0 (fD k47 rfl))
theorem IK {l : List Nd} {j : Nat} {num : Int} {nm : List UInt8} {ks : List Nat} (F : dm l j 40 num nm ks) (IH : ∀ x ∈ ks, bE l x) : bE l j := by
 obtain rfl : num = 0 := by simpa using (show (num == 0) = true from F.numF)
 obtain rfl : nm = [] := List.isEmpty_iff.1 (show nm.isEmpty = true from F.name)
 have hfit := F.fit
 unfold aA at hfit
 rw [qK] at hfit
 have hm := Kw hfit
 have ht : tkk l j = aF [115, 101, 108, 101, 99, 116] :: aF [123] :: (tkR l ks ++ [aF [125]]) := by
  rw [F.tok, rY]
  simp only [List.map_append, List.map_cons, List.map_nil, bv, bB, aV, bz, dB, di, List.append_nil, List.cons_append, List.nil_append, List.append_assoc, List.take_succ_cons, List.take_zero, List.drop_succ_cons, List.drop_zero]
 have ha : aD l j = .mk 40 0 0 [] (ks.map (aD l)) := F.tree
 have kq := k25
 refine fE F rfl (by decide) (by decide) (fun rest hr => ?_) ⟨_, _, ht, by rw [kq]; rfl⟩
 rw [ha]
 simp only [ht, List.append_assoc, List.cons_append, List.nil_append]
 exact EI k25 k44 (Bl ks IH hm rest)
theorem IL {l : List Nd} {j : Nat} {num : Int} {nm : List UInt8} {ks : List Nat} (F : dm l j 41 num nm ks) (IH : ∀ x ∈ ks, bE l x) : bE l j := by
 obtain rfl : num = 0 := by simpa using (show (num == 0) = true from F.numF)
 obtain rfl : nm = [] := List.isEmpty_iff.1 (show nm.isEmpty = true from F.name)
 have hfit := F.fit
 unfold aA at hfit
 rw [qL] at hfit
 have hm := Kw hfit
 have kq := k44
 have ht : tkk l j = aF [123] :: (tkR l ks ++ [aF [125]]) := by
  rw [F.tok, rZ]
  simp [bv]
 have ha : aD l j = .mk 41 0 0 [] (ks.map (aD l)) := F.tree
 have hb : ∀ rest, P .block (tkk l j ++ rest) [aD l j] rest := fun rest => by
  rw [ha]
  simp only [ht, List.append_assoc, List.cons_append, List.nil_append]
  exact G8 k44 (xV ks IH hm rest)
 have hkd := F.kind
 refine ⟨?_, ?_, ?_, ?_, ?_, ?_, ?_, ?_, ?_, fun _ => ⟨hb, _, _, ht, kq⟩, ?_, fun _ => ⟨fun rest hr => ?_, _, _, ht, by rw [kq]; rfl⟩, ?_, ?_⟩
 ·intro h; rw [hkd] at h; exact absurd h (by decide)
 ·intro h; rw [hkd] at h; exact absurd h (by decide)
 ·intro h; omega
 ·intro h; rw [F.lv] at h; exact absurd (show (7 : Int) <= 0 from h) (by decide)
 ·intro h; rw [F.lv] at h; exact absurd (show (6 : Int) <= 0 from h) (by decide)
 ·intro h; rw [F.lv] at h; exact absurd (show (1 : Int) <= 0 from h) (by decide)
 ·intro h; rw [hkd] at h; exact absurd h (by decide)
 ·intro h; rw [hkd] at h; exact absurd h (by decide)
 ·intro h; omega
 ·intro h; omega
 ·have := hb rest
  rw [ht] at this ⊢
  exact EJ k44 this
 ·intro h; rw [hkd] at h; exact absurd h (by decide)
 ·intro h; omega
theorem IM {l : List Nd} {j : Nat} {num : Int} {nm : List UInt8} {ks : List Nat} (F : dm l j 42 num nm ks) (IH : ∀ x ∈ ks, bE l x) : bE l j := by
 obtain rfl : num = 0 := by simpa using (show (num == 0) = true from F.numF)
 have hnm : bQ nm = true := F.name
 have kn := pm hnm
 have hfit := F.fit
 unfold aA at hfit
 rw [qM] at hfit
 obtain ⟨k0, h0, rfl⟩ := oI hfit
 have ht : tkk l j = aF nm :: aF [58] :: tkk l k0 := by
  rw [F.tok, si]
  simp only [List.map_append, List.map_cons, List.map_nil, bv, bB, aV, bz, dB, di, List.append_nil, List.cons_append, List.nil_append, List.append_assoc, List.take_succ_cons, List.take_zero, List.drop_succ_cons, List.drop_zero]
 have ha : aD l j = .mk 42 0 0 nm [aD l k0] := F.tree
 refine ⟨?_, ?_, ?_, ?_, ?_, ?_, ?_, ?_, ?_, ?_, ?_, ?_, ?_, ?_⟩
 ·intro h; rw [F.kind] at h; exact absurd h (by decide)
 ·intro h; rw [F.kind] at h; exact absurd h (by decide)
 ·intro h; rw [F.kind] at h; exact absurd h (by decide)
 ·intro h; rw [F.lv] at h; exact absurd (show (7 : Int) <= 0 from h) (by decide)
 ·intro h; rw [F.lv] at h; exact absurd (show (6 : Int) <= 0 from h) (by decide)
 ·intro h; rw [F.lv] at h; exact absurd (show (1 : Int) <= 0 from h) (by decide)
 ·intro h; rw [F.kind] at h; exact absurd h (by decide)
 ·intro h; rw [F.kind] at h; exact absurd h (by decide)
 ·exact fun _ => ⟨fun rest hr => by rw [ha, ht]; exact G7 kn k48 ((IH k0 (by simp)).typ h0 rest hr), _, _, ht, kn⟩
 ·intro h; rw [F.kind] at h; exact absurd h (by decide)
 ·intro h; rw [F.kind] at h; exact absurd h (by decide)
 ·intro h; rw [F.kind] at h; exact absurd h (by decide)
 ·intro h; rw [F.kind] at h; exact absurd h (by decide)
 ·intro h; rw [F.kind] at h; exact absurd h (by decide)
theorem IP {l : List Nd} {j : Nat} {num : Int} {nm : List UInt8} {ks : List Nat} (F : dm l j 43 num nm ks) (IH : ∀ x ∈ ks, bE l x) : bE l j := by
 obtain rfl : num = 0 := by simpa using (show (num == 0) = true from F.numF)
 have hn : nm = [] ∨ bQ nm = true := by
  have : (nm.isEmpty || bQ nm) = true := F.name
  rw [Bool.or_eq_true, List.isEmpty_iff] at this
  exact this
 have hfit := F.fit
 unfold aA at hfit
 rw [qN] at hfit
 obtain ⟨k0, k1, h0, h1, rfl⟩ := sM hfit
 obtain ⟨hb, t, r, e, hk⟩ := ((IH k1 (by simp)).blk (by simpa [dN] using h1))
 have hw : 6 <= lev l k0 := F.levs 0 (by simp)
 have c0 := IH k0 (by simp)
 have ha : aD l j = .mk 43 0 0 nm ([aD l k0] ++ [aD l k1]) := F.tree
 have hst : ∀ rest, Stop (tkk l k1 ++ rest) := fun rest => by rw [e]; exact (End.stop (fD hk rfl)).1
 have key : (∀ rest, P .arm (tkk l j ++ rest) [aD l j] rest) /\ ∃ t r, tkk l j = t :: r /\ t.kind = 13 := by
  rcases hn with rfl | hn
  ·have ht : tkk l j = aF [99, 97, 115, 101] :: aF [60, 45] :: (tkk l k0 ++ tkk l k1) := by
    rw [F.tok, lm]
    simp [bv, aV, bz]
   refine ⟨fun rest => ?_, _, _, ht, k13⟩
   rw [ha]
   simp only [ht, List.append_assoc, List.cons_append, List.nil_append]
   exact Hg k13 k65 (c0.un hw _ (hst rest)) (hb rest)
  ·have ht : tkk l j = aF [99, 97, 115, 101] :: aF nm :: aF [61] :: aF [60, 45] :: (tkk l k0 ++ tkk l k1) := by
    rw [F.tok, lm, if_neg (sO hn)]
    simp [bv, aV, bz]
   refine ⟨fun rest => ?_, _, _, ht, k13⟩
   rw [ha]
   simp only [ht, List.append_assoc, List.cons_append, List.nil_append]
   exact Hl k13 (pm hn) k50 k65 (c0.un hw _ (hst rest)) (hb rest)
 refine ⟨?_, ?_, ?_, ?_, ?_, ?_, ?_, ?_, ?_, ?_, ?_, ?_, ?_, ?_⟩
 ·intro h; rw [F.kind] at h; exact absurd h (by decide)
 ·intro h; rw [F.kind] at h; exact absurd h (by decide)
 ·intro h; rw [F.kind] at h; exact absurd h (by decide)
 ·intro h; rw [F.lv] at h; exact absurd (show (7 : Int) <= 0 from h) (by decide)
 ·intro h; rw [F.lv] at h; exact absurd (show (6 : Int) <= 0 from h) (by decide)
 ·intro h; rw [F.lv] at h; exact absurd (show (1 : Int) <= 0 from h) (by decide)
 ·intro h; rw [F.kind] at h; exact absurd h (by decide)
 ·intro h; rw [F.kind] at h; exact absurd h (by decide)
 ·intro h; rw [F.kind] at h; exact absurd h (by decide)
 ·intro h; rw [F.kind] at h; exact absurd h (by decide)
 ·intro h; rw [F.kind] at h; exact absurd h (by decide)
 ·intro h; rw [F.kind] at h; exact absurd h (by decide)
 ·exact fun _ => key
 ·intro h; rw [F.kind] at h; exact absurd h (by decide)
theorem IQ {l : List Nd} {j : Nat} {num : Int} {nm : List UInt8} {ks : List Nat} (F : dm l j 44 num nm ks) (IH : ∀ x ∈ ks, bE l x) : bE l j := by
 obtain rfl : num = 0 := by simpa using (show (num == 0) = true from F.numF)
 obtain rfl : nm = [] := List.isEmpty_iff.1 (show nm.isEmpty = true from F.name)
 have hfit := F.fit
 unfold aA at hfit
 rw [j4] at hfit
 obtain ⟨k0, k1, k2, h0, h1, h2, rfl⟩ := L6 hfit
 obtain ⟨hb, t2, r2, e2, hk2⟩ := ((IH k2 (by simp)).blk (by simpa [dN] using h2))
 have c0 := IH k0 (by simp)
 obtain ⟨t, r, e, s1, s7, s65, s4⟩ := (c0.fst h0).ex
 have hbeg := F.beg rfl
 have hn65 : t.kind ≠ 65 := fun h => by
  have := s65 h (l.length + 1) (by have := F.low k0 (by simp); have := F.lt; omega)
  have hb2 : df l (l.length + 1) (k0 : Nat) = false := hbeg
  rw [this] at hb2
  cases hb2
 have ht : tkk l j = aF [99, 97, 115, 101] :: (tkk l k0 ++ aF [60, 45, 61] :: (tkk l k1 ++ tkk l k2)) := by
  rw [F.tok, sj]
  simp only [List.map_append, List.map_cons, List.map_nil, bv, bB, aV, bz, dB, di, List.append_nil, List.cons_append, List.nil_append, List.append_assoc, List.take_succ_cons, List.take_zero, List.drop_succ_cons, List.drop_zero]
 have ha : aD l j = .mk 44 0 0 [] ([aD l k0] ++ ([aD l k1] ++ [aD l k2])) := F.tree
 refine ⟨?_, ?_, ?_, ?_, ?_, ?_, ?_, ?_, ?_, ?_, ?_, ?_, ?_, ?_⟩
 ·intro h; rw [F.kind] at h; exact absurd h (by decide)
 ·intro h; rw [F.kind] at h; exact absurd h (by decide)
 ·intro h; rw [F.kind] at h; exact absurd h (by decide)
 ·intro h; rw [F.lv] at h; exact absurd (show (7 : Int) <= 0 from h) (by decide)
 ·intro h; rw [F.lv] at h; exact absurd (show (6 : Int) <= 0 from h) (by decide)
 ·intro h; rw [F.lv] at h; exact absurd (show (1 : Int) <= 0 from h) (by decide)
 ·intro h; rw [F.kind] at h; exact absurd h (by decide)
 ·intro h; rw [F.kind] at h; exact absurd h (by decide)
 ·intro h; rw [F.kind] at h; exact absurd h (by decide)
 ·intro h; rw [F.kind] at h; exact absurd h (by decide)
 ·intro h; rw [F.kind] at h; exact absurd h (by decide)
 ·intro h; rw [F.kind] at h; exact absurd h (by decide)
 ·refine fun _ => ⟨fun rest => ?_, _, _, ht, k13⟩
  rw [ha]
  simp only [ht, List.append_assoc, List.cons_append, List.nil_append]
  refine Hm k13 k66 (by rw [gm e]; exact hn65) (fun h => ?_) (dX c0 h0 (fD k66 rfl)) (dX (IH k1 (by simp)) h1 (by rw [e2]; exact fD hk2 rfl)) (hb rest)
  rw [gm e] at h
  obtain ⟨h1', h50⟩ := h
  have kq := k66
  rcases s4 h1' with rfl | ⟨v, r', rfl, hv⟩
  ·rw [e] at h50
   have : (aF [60, 45, 61]).kind = 50 := h50
   omega
  ·rw [e] at h50
   exact hv h50
 ·intro h; rw [F.kind] at h; exact absurd h (by decide)
theorem IR {l : List Nd} {j : Nat} {num : Int} {nm : List UInt8} {ks : List Nat} (F : dm l j 45 num nm ks) (IH : ∀ x ∈ ks, bE l x) : bE l j := by
 obtain rfl : num = 0 := by simpa using (show (num == 0) = true from F.numF)
 have hnm : bQ nm = true := F.name
 have kn := pm hnm
 have hfit := F.fit
 unfold aA at hfit
 rw [qO] at hfit
 obtain ⟨k0, h0, rfl⟩ := oI hfit
 have ht : tkk l j = aF [116, 121, 112, 101] :: aF nm :: aF [61] :: (tkk l k0 ++ [aF [59]]) := by
  rw [F.tok, su]
  simp only [List.map_append, List.map_cons, List.map_nil, bv, bB, aV, bz, dB, di, List.append_nil, List.cons_append, List.nil_append, List.append_assoc, List.take_succ_cons, List.take_zero, List.drop_succ_cons, List.drop_zero]
 have ha : aD l j = .mk 45 0 0 nm [aD l k0] := F.tree
 refine ⟨?_, ?_, ?_, ?_, ?_, ?_, ?_, ?_, ?_, ?_, ?_, ?_, ?_, ?_⟩
 ·intro h; rw [F.kind] at h; exact absurd h (by decide)
 ·intro h; rw [F.kind] at h; exact absurd h (by decide)
 ·intro h; rw [F.kind] at h; exact absurd h (by decide)
 ·intro h; rw [F.lv] at h; exact absurd (show (7 : Int) <= 0 from h) (by decide)
 ·intro h; rw [F.lv] at h; exact absurd (show (6 : Int) <= 0 from h) (by decide)
 ·intro h; rw [F.lv] at h; exact absurd (show (1 : Int) <= 0 from h) (by decide)
 ·intro h; rw [F.kind] at h; exact absurd h (by decide)
 ·intro h; rw [F.kind] at h; exact absurd h (by decide)
 ·intro h; rw [F.kind] at h; exact absurd h (by decide)
 ·intro h; rw [F.kind] at h; exact absurd h (by decide)
 ·intro h; rw [F.kind] at h; exact absurd h (by decide)
 ·intro h; rw [F.kind] at h; exact absurd h (by decide)
 ·intro h; rw [F.kind] at h; exact absurd h (by decide)
 ·refine fun _ => ⟨fun rest => ?_, _, _, ht, k27⟩
  rw [ha]
  simp only [ht, List.append_assoc, List.cons_append, List.nil_append]
  exact LX k27 kn k50 k47 ((IH k0 (by simp)).typ h0 _ (by show (aF [59]).kind ≠ 48; rw [k47]; decide))
theorem IU {l : List Nd} {j : Nat} {num : Int} {nm : List UInt8} {ks : List Nat} (F : dm l j 46 num nm ks) (IH : ∀ x ∈ ks, bE l x) : bE l j := by
 refine ⟨?_, ?_, ?_, ?_, ?_, ?_, ?_, ?_, ?_, ?_, ?_, ?_, ?_, ?_⟩
 ·intro h; rw [F.kind] at h; exact absurd h (by decide)
 ·intro h; rw [F.kind] at h; exact absurd h (by decide)
 ·intro h; rw [F.kind] at h; exact absurd h (by decide)
 ·intro h; rw [F.lv] at h; exact absurd (show (7 : Int) <= 0 from h) (by decide)
 ·intro h; rw [F.lv] at h; exact absurd (show (6 : Int) <= 0 from h) (by decide)
 ·intro h; rw [F.lv] at h; exact absurd (show (1 : Int) <= 0 from h) (by decide)
 ·intro h; rw [F.kind] at h; exact absurd h (by decide)
 ·intro h; rw [F.kind] at h; exact absurd h (by decide)
 ·intro h; rw [F.kind] at h; exact absurd h (by decide)
 ·intro h; rw [F.kind] at h; exact absurd h (by decide)
 ·intro h; rw [F.kind] at h; exact absurd h (by decide)
 ·intro h; rw [F.kind] at h; exact absurd h (by decide)
 ·intro h; rw [F.kind] at h; exact absurd h (by decide)
 ·intro h; rw [F.kind] at h; exact absurd h (by decide)
theorem Dk {l : List Nd} {j : Nat} {kd0 num : Int} {nm : List UInt8} {ks : List Nat} (F : dm l j kd0 num nm ks) (hk : gP kd0 = true) (IH : ∀ x ∈ ks, bE l x) : bE l j := by
 rcases j5 _ hk with rfl | rfl | rfl | rfl | rfl | rfl | rfl | rfl | rfl | rfl | rfl | rfl | rfl | rfl | rfl | rfl | rfl | rfl | rfl | rfl | rfl | rfl | rfl | rfl | rfl | rfl | rfl | rfl | rfl | rfl | rfl | rfl | rfl | rfl | rfl | rfl | rfl | rfl
 ·exact Ky F IH
 ·exact Kz F IH
 ·exact KC F IH
 ·exact KD F IH
 ·exact KF F IH
 ·exact KE F IH
 ·exact KG F IH
 ·exact Ic F IH
 ·exact Ie F IH
 ·exact Ig F IH
 ·exact Ih F IH
 ·exact Ii F IH
 ·exact Ij F IH
 ·exact Ik F IH
 ·exact Il F IH
 ·exact Im F IH
 ·exact Io F IH
 ·exact Iu F IH
 ·exact Iw F IH
 ·exact Ip F IH
 ·exact Iq F IH
 ·exact Ir F IH
 ·exact Iy F IH
 ·exact Iz F IH
 ·exact IA F IH
 ·exact IB F IH
 ·exact IC F IH
 ·exact IE F IH
 ·exact IG F IH
 ·exact II F IH
 ·exact IJ F IH
 ·exact IK F IH
 ·exact IL F IH
 ·exact IM F IH
 ·exact IP F IH
 ·exact IQ F IH
 ·exact IR F IH
 ·exact IU F IH
theorem Fj {l : List Nd} (hok : (bG l).2 = 0) (hw : ∀ j, j < l.length -> I64 (ndN l j).num) : ∀ j, j < l.length -> bE l j := by
 obtain ⟨hall, _, _⟩ := iY hok
 intro j
 induction j using Nat.strongRecOn with
 | _ j ih =>
  intro hj
  have F := Fg hok hw hj
  refine Dk F (hall j hj).kind (fun k hk => ?_)
  have := F.low k hk
  exact ih k this (by omega)
theorem Aw {l : List Nd} (hok : (bG l).2 = 0) (hw : ∀ j, j < l.length -> I64 (ndN l j).num) (eof : ai) (he : eof.kind = 0) : P .program (tkk l (l.length - 1) ++ [eof]) [aD l (l.length - 1)] [eof] := by
 obtain ⟨hall, h0, h46⟩ := iY hok
 have F := Fg hok hw (j := l.length - 1) (by omega)
 have hC := Fj hok hw
 have hks : ∀ k ∈ dS l (l.length - 1), bE l k := fun k hk => by
  have := F.low k hk
  exact hC k (by omega)
 have hkd : (ndN l (l.length - 1)).kind = 46 := h46
 rw [hkd] at F
 generalize (ndN l (l.length - 1)).num = num at F
 generalize (ndN l (l.length - 1)).name.data.toList = nm at F
 generalize dS l (l.length - 1) = ks at F hks
 obtain rfl : nm = [] := List.isEmpty_iff.1 (show nm.isEmpty = true from F.name)
 have hnum : (decide (0 <= num) && decide (num <= ks.length)) = true := F.numF
 rw [Bool.and_eq_true, decide_eq_true_eq, decide_eq_true_eq] at hnum
 have hfit := F.fit
 unfold aA at hfit
 rw [qP] at hfit
 obtain ⟨ts, ss, hts, h45, hss, rfl⟩ := MS hfit
 have ht : tkk l (l.length - 1) = tkR l ts ++ tkR l ss := by
  rw [F.tok, sw, bv]
  simp [tkR]
 have ha : aD l (l.length - 1) = .mk 46 0 ((ts.map (aD l)).length : Nat) [] (ts.map (aD l) ++ ss.map (aD l)) := by
  rw [F.tree, List.map_append]
  congr 1
  rw [List.length_map, hts]
  omega
 rw [ha, ht, List.append_assoc]
 refine Db (xW ?_ ts (fun x hx => hks x (by simp [hx])) (fun x hx => by simpa [dN] using h45 x hx)) (Bn eof he ss (fun x hx => hks x (by simp [hx])) hss)
 cases ss with
 | nil =>
  show kd [eof] ≠ 27
  have : kd [eof] = eof.kind := rfl
  omega
 | cons k r =>
  obtain ⟨_, t, z, e, hs⟩ := (hks k (by simp)).st (hss k (by simp))
  have := lG hs
  rw [aV, List.append_assoc, gm e]
  omega
def uH (ts : List (List UInt8)) : List UInt8 := ts.flatMap fun t => t ++ [32]
theorem uI : ∀ ts : List (List UInt8), dP ts ++ [32] = 32 :: uH ts
 | [] => rfl
 | t :: r => by
  have ih := uI r
  unfold dP uH at *
  rw [List.flatMap_cons, List.flatMap_cons, List.append_assoc, ih]
  simp
theorem Fp {ts : List (List UInt8)} (h : gI ts) (h0 : ts ≠ []) : fI [] ts ++ [32] = uH ts := by
 match ts, h, h0 with
 | t :: r, h, _ =>
  rw [mR t r (all_cons.1 h).1.pos, List.append_assoc, uI]
  simp [uH]
theorem xX : ∀ ts : List (List UInt8), (uH ts).length = cost ts
 | [] => rfl
 | t :: r => by
  have ih := xX r
  unfold uH at *
  rw [List.flatMap_cons, List.length_append, ih, cost_cons]
  simp
theorem IV {ts : List (List UInt8)} (h : gI ts) (h0 : ts ≠ []) : (fI [] ts).length + 1 = cost ts := by
 rw [← xX, ← Fp h h0]
 simp
def er (n : Nd) : Nd := ⟨n.kind, 0, n.kids, n.name, n.num⟩
def seg (l : List Nd) (a b : Nat) : List Nd := ((l.map er).take b).drop a
theorem Bp {l : List Nd} {a b : Nat} (h : b <= l.length) : (seg l a b).length = b - a := by
 unfold seg
 rw [List.length_drop, List.length_take, List.length_map]
 omega
theorem Fq (l : List Nd) (a : Nat) : seg l a a = [] := by
 unfold seg
 rw [List.drop_eq_nil_of_le]
 simp
 omega
theorem xY {l : List Nd} {a b c : Nat} (h1 : a <= b) (h2 : b <= c) : seg l a c = seg l a b ++ seg l b c := by
 unfold seg
 have e : (l.map er).take b = ((l.map er).take c).take b := by rw [List.take_take, Nat.min_eq_left h2]
 rw [e]
 generalize (l.map er).take c = m
 by_cases hb : b <= m.length
 ·conv => lhs; rw [← List.take_append_drop b m]
  rw [List.drop_append_of_le_length (by rw [List.length_take]; omega)]
 ·have h1 : m.drop b = [] := List.drop_eq_nil_of_le (by omega)
  have h2 : m.take b = m := List.take_of_length_le (by omega)
  rw [h1, h2, List.append_nil]
theorem IW {l : List Nd} {j : Nat} (h : j < l.length) : seg l j (j + 1) = [er (ndN l j)] := by
 unfold seg
 rw [List.take_succ_eq_append_getElem (by simpa using h), List.drop_append_of_le_length (by simp; omega), List.drop_eq_nil_of_le (by simp; omega)]
 simp [ndN, List.getD, h]
structure Js (l : List Nd) (fs : List Nat) : Prop where
 le : ∀ i, i < fs.length -> fs.getD i 0 <= i
 seg : ∀ i, i < fs.length -> seg l (fs.getD i 0) (i + 1) = flat (aD l i) (fs.getD i 0)
theorem uJ {l : List Nd} {fs : List Nat} (hS : Js l fs) (hl : fs.length <= l.length) : ∀ (ks : List Int) (nx : Nat), nx <= fs.length -> fM fs nx ks = true ->
  iF fs nx ks <= nx /\ seg l (iF fs nx ks) nx = ag ((ks.reverse.map Int.toNat).map (aD l)) (iF fs nx ks) /\ ends ((ks.reverse.map Int.toNat).map (aD l)) (iF fs nx ks) = ks.reverse
 | [], nx, _, _ => ⟨Nat.le_refl _, by simp [iF, Fq, ag], rfl⟩
 | x :: r, nx, hnx, h => by
  rw [fM] at h
  split at h
  ·rename_i hx
   obtain ⟨y, rfl⟩ : ∃ y : Nat, x = (y : Int) := ⟨x.toNat, by omega⟩
   have hy : y < fs.length := by omega
   rw [Int.toNat_natCast] at h
   have h1 := hS.le y hy
   have h2 := hS.seg y hy
   obtain ⟨i1, i2, i3⟩ := uJ hS hl r (fs.getD y 0) (by omega) h
   have e1 : iF fs nx ((y : Int) :: r) = iF fs (fs.getD y 0) r := by rw [iF, Int.toNat_natCast]
   rw [e1, List.reverse_cons, List.map_append, List.map_append]
   have hny : nx = y + 1 := by omega
   have s1 : sizes ((r.reverse.map Int.toNat).map (aD l)) = fs.getD y 0 - iF fs (fs.getD y 0) r := by
    have := congrArg List.length i2
    rw [Bp (by omega), dU] at this
    exact this.symm
   have s2 : (aD l y).size = y + 1 - fs.getD y 0 := by
    have := congrArg List.length h2
    rw [Bp (by omega), mX] at this
    exact this.symm
   refine ⟨by omega, ?_, ?_⟩
   ·rw [xY (b := fs.getD y 0) i1 (by omega), i2, hny, h2]
    show _ = ag (_ ++ [aD l y]) _
    rw [qd, s1]
    congr 2
    omega
   ·show ends (_ ++ [aD l y]) _ = _
    rw [tT, i3, s1, s2]
    congr 2
    omega
  ·cases h
theorem Bq {l : List Nd} (hlow : ∀ j, j < l.length -> ∀ k ∈ dS l j, k < j) : ∀ (m : Nat) (fs : List Nat), fs.length + m = l.length -> Js l fs -> (gK l m fs).2 = 0 -> 0 < l.length /\ l.map er = flat (aD l (l.length - 1)) 0
 | 0, fs, hm, hS, hc => by
  rw [gK] at hc
  unfold xx at hc
  split at hc
  ·cases hc
  ·rename_i hr
   have h0 : ¬ l.length = 0 := fun e => hr (.inl e)
   have h1 : fs.getD (l.length - 1) 0 = 0 := Classical.byContradiction fun e => hr (.inr (.inr e))
   refine ⟨by omega, ?_⟩
   have := hS.seg (l.length - 1) (by omega)
   rw [h1] at this
   rw [← this]
   unfold seg
   rw [List.drop_zero, List.take_of_length_le (by simp; omega)]
 | m + 1, fs, hm, hS, hc => by
  rw [gK] at hc
  split at hc
  ·rename_i hz
   obtain ⟨_, _, _, _, ho, _, _⟩ := ic hz
   refine Bq hlow m _ (by simp; omega) ⟨ru hS.le hz, fun j hj => ?_⟩ hc
   simp only [List.length_append, List.length_cons, List.length_nil] at hj
   by_cases hj2 : j < fs.length
   ·have := hS.seg j hj2
    have e : (fs ++ [dQ fs (ndN l fs.length) fs.length]).getD j 0 = fs.getD j 0 := by
     simp only [List.getD_eq_getElem?_getD]
     rw [List.getElem?_append_left hj2]
    rw [e]
    exact this
   ·have : j = fs.length := by omega
    subst this
    have e : (fs ++ [dQ fs (ndN l fs.length) fs.length]).getD fs.length 0 = dQ fs (ndN l fs.length) fs.length := by simp [List.getD_eq_getElem?_getD]
    rw [e, jA]
    obtain ⟨i1, i2, i3⟩ := uJ hS (by omega) (ndN l fs.length).kids.reverse fs.length (Nat.le_refl _) ho
    rw [List.reverse_reverse] at i2 i3
    rw [xY (b := fs.length) i1 (by omega), i2, IW (by omega), xU hlow (by omega), flat]
    unfold dS
    rw [i3]
    rfl
  ·rename_i hz
   exact absurd hc hz
theorem Fs {l : List Nd} (hok : (bG l).2 = 0) : l.map er = flat (aD l (l.length - 1)) 0 :=
 (Bq (fun j hj => ((iY hok).1 j hj).low) l.length [] (by simp) ⟨fun i hi => (by cases hi), fun i hi => (by cases hi)⟩ hok).2
end Go.Proofs.YtecodpdfckjalaaGreatDoor
namespace Go.Proofs.YtecodpdfckjalaaGreatDoor
def Lf (a b : Res) : Prop := a = .out ∨ a = b
theorem nX (a : Res) : Lf a a := .inr rfl
theorem IX {a b : Res} {k l : List Tr -> List ai -> Res} (h : Lf a b) (hk : ∀ t s, Lf (k t s) (l t s)) : Lf (aC a k) (aC b l) := by
 rcases h with rfl | rfl
 ·exact .inl rfl
 ·match a with
  | .ok x y => exact hk x y
  | .err _ => exact .inr rfl
  | .out => exact .inl rfl
theorem IY {c : Nat} {s : List ai} {k l : List ai -> Res} (hk : ∀ s, Lf (k s) (l s)) : Lf (want c s k) (want c s l) := by
 unfold want
 split
 ·exact hk _
 ·exact nX _
theorem Fu {s : List ai} {k l : List UInt8 -> List ai -> Res} (hk : ∀ n s, Lf (k n s) (l n s)) : Lf (dJ s k) (dJ s l) := by
 unfold dJ
 split
 ·exact hk _ _
 ·exact nX _
theorem IZ {s : List ai} {k l : Nat -> List ai -> Res} (hk : ∀ n s, Lf (k n s) (l n s)) : Lf (gN s k) (gN s l) := by
 unfold gN
 split
 ·exact hk _ _
 ·exact nX _
theorem KM {p : Prop} [Decidable p] {a b c d : Res} (h1 : Lf a c) (h2 : Lf b d) : Lf (if p then a else b) (if p then c else d) := by
 split
 ·exact h1
 ·exact h2
theorem I1 {g h : Rl -> List ai -> Res} (H : ∀ r s, Lf (g r s) (h r s)) (r : Rl) (s : List ai) : Lf (body g r s) (body h r s) := by
 cases r <;> (unfold body; repeat' (first | exact nX _ | exact H _ _ | refine KM ?_ ?_ | refine IX (H _ _) (fun _ _ => ?_) | refine IY (fun _ => ?_) | refine Fu (fun _ _ => ?_) | refine IZ (fun _ _ => ?_)))
theorem Fv : ∀ (f : Nat) (r : Rl) (s : List ai), Lf (pF f r s) (pF (f + 1) r s)
 | 0, r, s => .inl rfl
 | f + 1, r, s => I1 (Fv f) r s
theorem Jt {f f' : Nat} (h : f <= f') (r : Rl) (s : List ai) : Lf (pF f r s) (pF f' r s) := by
 induction h with
 | refl => exact nX _
 | step _ ih =>
  rcases ih with e | e
  ·exact .inl e
  ·rcases Fv _ r s with e2 | e2
   ·exact .inl (e.trans e2)
   ·exact .inr (e.trans e2)
theorem KN {f f' : Nat} {r : Rl} {s : List ai} (h1 : pF f r s ≠ .out) (h2 : pF f' r s ≠ .out) : pF f r s = pF f' r s := by
 by_cases h : f <= f'
 ·rcases Jt h r s with e | e
  ·exact absurd e h1
  ·exact e
 ·rcases Jt (show f' <= f by omega) r s with e | e
  ·exact absurd e h2
  ·exact e.symm
end Go.Proofs.YtecodpdfckjalaaGreatDoor
namespace Go.Proofs.YtecodpdfckjalaaGreatDoor
open Go.RowKit
theorem uK : ∀ (ts : List (List UInt8)) (pre : List UInt8), ((iD (pre.length + 1) ts).map (wP (pre ++ dP ts))).map pS = (ts.map aF).map pS
 | [], pre => rfl
 | t :: r, pre => by
  have ih := uK r (pre ++ 32 :: t)
  have hm := A8 (pre ++ [32]) t (dP r)
  have e1 : (pre ++ [(32 : UInt8)]).length = pre.length + 1 := by simp
  have e2 : (pre ++ 32 :: t).length + 1 = pre.length + 1 + t.length + 1 := by simp; omega
  have e3 : pre ++ dP (t :: r) = (pre ++ [32]) ++ (t ++ dP r) := by simp [dP]
  have e4 : (pre ++ 32 :: t) ++ dP r = (pre ++ [32]) ++ (t ++ dP r) := by simp
  rw [e1] at hm
  rw [e2, e4] at ih
  rw [e3, show iD (pre.length + 1) (t :: r) = sK (pre.length + 1) t :: iD (pre.length + 1 + t.length + 1) r from rfl]
  simp only [List.map_cons]
  congr 1
  simp only [wP, pS, sK, aF, hm]
theorem Fw : ∀ (ts : List (List UInt8)), gI ts -> ((iD 0 ts).map (wP (fI [] ts))).map pS = (ts.map aF).map pS
 | [], _ => rfl
 | t :: r, h => by
  have hp := (all_cons.1 h).1.pos
  have ih := uK r t
  have hm := A8 [] t (dP r)
  simp only [List.nil_append, List.length_nil, Nat.zero_add] at hm
  rw [mR t r hp, show iD 0 (t :: r) = sK 0 t :: iD (0 + t.length + 1) r from rfl, Nat.zero_add]
  simp only [List.map_cons]
  congr 1
  simp only [wP, pS, sK, aF, Nat.zero_add, hm]
theorem pq : ∀ (ts : List (List UInt8)) (n : Nat), (iD n ts).length = ts.length
 | [], n => rfl
 | t :: r, n => by simp [iD, pq r]
theorem xZ : ∀ (ts : List (List UInt8)), gI ts -> 2 * ts.length <= cost ts
 | [], _ => Nat.zero_le _
 | t :: r, h => by
  have := xZ r (all_cons.1 h).2
  have hp := (all_cons.1 h).1.pos
  rw [cost_cons, List.length_cons]
  omega
theorem Ay {l : List Nd} (hok : (bG l).2 = 0) (hw : ∀ j, j < l.length -> I64 (ndN l j).num) (hl : (fI [] (dF l (l.length - 1))).length <= 65536) :
  (fP (fI [] (dF l (l.length - 1))) 65536).2 = (0, 0) /\ l.length = (fP (fI [] (dF l (l.length - 1))) 65536).1.length /\ ∀ p, p < l.length -> mK true (ndN l p) (ndN (fP (fI [] (dF l (l.length - 1))) 65536).1 p) := by
 obtain ⟨hall, h0, h46⟩ := iY hok
 have hT := E9 hok hw (l.length - 1) (by omega)
 have hs := Fb hT hl
 have hp := Aw hok hw pt0 rfl
 have hfl := Fs hok
 unfold tkk at hp
 have hcost : 2 * (dF l (l.length - 1)).length <= (fI [] (dF l (l.length - 1))).length + 1 := by
  by_cases he : dF l (l.length - 1) = []
  ·rw [he]; simp
  ·rw [IV hT he]
   exact xZ _ hT
 have htk := Fw _ hT
 generalize dF l (l.length - 1) = T at *
 generalize fI [] T = xs at *
 have hs0 : (aB xs).2.2 = 0 := by rw [hs]
 have hne := nJ xs hs0
 have hwl := Eo (iL (aB xs).1.length + 1) .program _ trivial (jL xs hs0).1 (by have := jL xs hs0; omega)
 have hlen2 := (jL xs hs0).2.1
 obtain ⟨f, hf⟩ := hp
 have eS : (pts xs (aW (aB xs).1 xs.length) 0).map pS = (T.map aF ++ [pt0]).map pS := by
  rw [hs]
  simp only [pts, aW, List.drop_zero, List.map_append, List.map_cons, List.map_nil, htk]
  congr 1
  simp [wP, pS, cut, pt0]
 have hx := JB f .program (pts xs (aW (aB xs).1 xs.length) 0)
 have hy := JB f .program (T.map aF ++ [pt0])
 rw [eS, hy, hf] at hx
 unfold fP
 rw [if_neg (fun h => h hs0)]
 have hne2 : pF f .program (pts xs (aW (aB xs).1 xs.length) 0) ≠ .out := fun e => by rw [e] at hx; simp [jC] at hx
 have hone := KN hne hne2
 rw [← hone] at hx
 have hTl : (aB xs).1.length = T.length := by rw [hs, pq]
 rw [hTl] at hlen2
 generalize pF (iL (aB xs).1.length + 1) .program (pts xs (aW (aB xs).1 xs.length) 0) = A at *
 match A, hx with
 | .ok ts s', h =>
  simp only [jC, Res.ok.injEq] at h
  obtain ⟨e, _⟩ := h
  obtain ⟨_, _, hz⟩ := hwl
  simp only [exR, slR] at hz
  have hh : hts ts <= 65536 := by
   have := oG ts
   omega
  have hno := A7 (ag ts 0) 65536 (hls ts) 0 (fun x hx => by have := Al ts x hx; omega)
  simp only
  rw [tH, hno, if_neg (fun h => h rfl)]
  refine ⟨rfl, ?_⟩
  refine JY ?_
  have e1 : (ag ts 0).map ndS = ag (tsS ts) 0 := (pQ ts 0).symm
  rw [e1, ← e, pQ]
  simp only [ag, List.append_nil]
  rw [← hfl, List.map_map]
  rfl
theorem aO.upP {w : World} {B C : Nat} {v : Value} {ks : List Int} (h : aO w B v ks) (hB : B <= C) : aO w C v ks := by
 obtain ⟨a, c, e, h1, h2, h3⟩ := h.ex
 refine ⟨a, c, e, h1, h2, fun h0 => ?_⟩
 obtain ⟨b, o, e1, e2, e3⟩ := h3 h0
 exact ⟨b, o, e1, by omega, e3⟩
theorem cK.upP {w : World} {B C cap : Nat} {a : Option Addr} {l : List Nd} (h : cK w B a cap l) (hB : B <= C) (hC : C <= w.heap.size) : cK w C a cap l := by
 refine ⟨fun h0 => ?_, hC⟩
 obtain ⟨nb, no, e, hn⟩ := h.at_ h0
 refine ⟨nb, no, e, fun j hj => ?_, hn.wf, by have := hn.lo; omega, hC, hn.max, hn.cap⟩
 obtain ⟨ka, kc, q⟩ := hn.at_ j hj
 exact ⟨ka, kc, q.c0, q.c1, q.c2, q.c3, q.c4, q.kids.upP hB⟩
theorem cK.later {w w' : World} {cap : Nat} {a : Option Addr} {l : List Nd} (h : cK w w.heap.size a cap l) (hb : Below w.heap.size w w') : cK w' w'.heap.size a cap l :=
 (h.below hb).upP hb.size (Nat.le_refl _)
structure NsS (w W : World) (b1 b2 : Nat) (na ma : Option Addr) (nc mc : Nat) (l m : List Nd) (fa fc ga gc : Int) : Prop where
 bel : Below w.heap.size w W
 f0 : W.cell? ⟨b1, 0, none⟩ = some (.int .i64 fa)
 f1 : W.cell? ⟨b1, 1, none⟩ = some (.int .i64 fc)
 g0 : W.cell? ⟨b2, 0, none⟩ = some (.int .i64 ga)
 g1 : W.cell? ⟨b2, 1, none⟩ = some (.int .i64 gc)
 nl : cK W W.heap.size na nc l
 nm : cK W W.heap.size ma mc m
theorem NsS.later {w W W' : World} {b1 b2 : Nat} {na ma : Option Addr} {nc mc : Nat} {l m : List Nd} {fa fc ga gc : Int} (h : NsS w W b1 b2 na ma nc mc l m fa fc ga gc) (hb : Below W.heap.size W W') : NsS w W' b1 b2 na ma nc mc l m fa fc ga gc := by
 have k1 := World.block_lt_of_cell? W _ h.f0
 have k2 := World.block_lt_of_cell? W _ h.g0
 exact ⟨h.bel.trans (hb.mono h.bel.size), by rw [hb.cell (p := ⟨b1, 0, none⟩) k1]; exact h.f0, by rw [hb.cell (p := ⟨b1, 1, none⟩) k1]; exact h.f1, by rw [hb.cell (p := ⟨b2, 0, none⟩) k2]; exact h.g0, by rw [hb.cell (p := ⟨b2, 1, none⟩) k2]; exact h.g1, h.nl.later hb, h.nm.later hb⟩
end Go.Proofs.YtecodpdfckjalaaGreatDoor
namespace Go.Proofs.YtecodpdfckjalaaGreatDoor
open Go.RowKit Go.Sort
structure BxS (w0 : World) (B b : Nat) (lv : Value) (bs : List UInt8) (x : Nat) (k p num : Int) (v nm : Value) (W0 : World) (T : List (List UInt8)) (W : World) : Prop where
 st : PrS w0 B b lv bs T W
 box : W.heap[x]? = some (.cells #[.int .i64 k, .int .i64 p, v, nm, .int .i64 num] 44 (0, 0))
 keep : fu W0 W b
 xb : x ≠ b
def BxP (w0 : World) (B b : Nat) (lv : Value) (bs : List UInt8) (x : Nat) (k p num : Int) (v nm : Value) (W0 : World) (T : List (List UInt8)) (e : Ending) (W : World) : Prop :=
 e = .returned (.tuple #[]) /\ BxS w0 B b lv bs x k p num v nm W0 T W /\ W.cell? ⟨x, 0, none⟩ = some (.int .i64 k) /\ W.cell? ⟨x, 2, none⟩ = some v /\ W.cell? ⟨x, 3, none⟩ = some nm /\ W.cell? ⟨x, 4, none⟩ = some (.int .i64 num) /\ x < W.heap.size /\ b < W.heap.size
theorem BxS.post {w0 : World} {B b : Nat} {lv : Value} {bs : List UInt8} {x : Nat} {k p num : Int} {v nm : Value} {W0 : World} {T : List (List UInt8)} {W : World} (h : BxS w0 B b lv bs x k p num v nm W0 T W) : BxP w0 B b lv bs x k p num v nm W0 T (.returned (.tuple #[])) W := by
 obtain ⟨c0, c2, c3, c4, _, hx⟩ := dW h.box
 exact ⟨rfl, h, c0, c2, c3, c4, hx, h.st.pb.lt⟩
theorem s_call {w0 : World} {B b : Nat} {lv : Value} {bs : List UInt8} {x : Nat} {k p num : Int} {v nm : Value} {W0 : World} {T T2 : List (List UInt8)} {W : World} {N F : Nat} {args : Array Value} (hc : PrC w0 B b lv N F args T2) (h : BxS w0 B b lv bs x k p num v nm W0 T W) (hb : bs.length + cost (T ++ T2) <= N) :
  Calls Tryz.prog F args W (BxP w0 B b lv bs x k p num v nm W0 (T ++ T2)) := by
 refine (nN hc h.st hb).mono ?_
 rintro e W' ⟨rfl, q1, q2, q3⟩
 exact BxS.post ⟨q1, q2 _ _ _ _ h.box (by decide) h.xb, h.keep.trans q2, h.xb⟩
theorem dn {w0 : World} {B b : Nat} {lv : Value} {bs : List UInt8} {x : Nat} {k p num : Int} {v nm : Value} {W0 : World} {T : List (List UInt8)} {W : World} {N : Nat} {C : Array Value} {n cap tb : Nat} (hN : N <= 140737488355328) (hn : C.size = n) (htb : W.heap.size = tb) (h : BxS w0 B b lv bs x k p num v nm W0 T W) (hok : bC C.toList) (h100 : n <= 100) (hb : bs.length + cost (T ++ ay C) <= N) :
  Calls Tryz.prog 49 #[.pointer (some ⟨b, 0, none⟩), .slice (some ⟨tb, 0, none⟩) n cap] (W.alloc (.cells C 9)) (BxP w0 B b lv bs x k p num v nm W0 (T ++ ay C)) := by
 subst htb
 refine (lg hN hn h.st hok h100 hb).mono ?_
 rintro e W' ⟨rfl, q1, q2, q3⟩
 exact BxS.post ⟨q1, q2 _ _ _ _ h.box (by decide) h.xb, h.keep.trans q2, h.xb⟩
theorem BxS.start {w0 : World} {B b : Nat} {lv : Value} {bs : List UInt8} {W : World} (h : PSt w0 B b lv W bs) (k p num : Int) (v nm : Value) : BxS w0 B b lv bs W.heap.size k p num v nm W [] (W.alloc (.cells #[.int .i64 k, .int .i64 p, v, nm, .int .i64 num] 44)) :=
 ⟨h.alloc _, heap_alloc_new W _, fu.alloc W _ b, by have := h.pb.lt; omega⟩
theorem bV {w0 : World} {B b : Nat} {lv : Value} {bs : List UInt8} {x : Nat} {k p num : Int} {v nm : Value} {W0 : World} {T T' : List (List UInt8)} {W : World} (h : BxS w0 B b lv bs x k p num v nm W0 T W) (hT : T = T') : EO w0 B b lv bs T' W0 (.returned (.tuple #[])) W := by
 subst hT
 exact ⟨rfl, h.st, h.keep, h.st.pb.lt⟩
def ndA (b : Nat) (ka : Option Addr) (kc nk : Nat) (k p num : Int) (nm : ByteArray) : Array Value := #[.pointer (some ⟨b, 0, none⟩), .agg #[.int .i64 k, .int .i64 p, .slice ka nk kc, .string nm, .int .i64 num]]
structure x8 (w : World) (B : Nat) : Prop where
 laid : Laid w
 pow : Lib.TabIs Tryz.prog w "internal/strconv.uint64pow10" .u64 Lib.pow10Tab
 lo : 7 <= B
theorem Fx {w w' : World} {B : Nat} {e : TypeId} {s : Nat} {v : Value} {n : Nat} {cs : List Value} (h : w.ownsRow B e s v n cs) (hb : Below w.heap.size w w') : w'.ownsRow B e s v n cs := by
 obtain ⟨h1, h2⟩ := h
 refine ⟨h1, ?_⟩
 rcases h2 with h2 | ⟨g, cap, cur, hv, hg, hh, r⟩
 ·exact .inl h2
 ·exact .inr ⟨g, cap, cur, hv, hg, by rw [hb.block g (je hh)]; exact hh, r⟩
theorem PSt.ext {w0 W W' : World} {B b : Nat} {lv : Value} {bs : List UInt8} (h : PSt w0 B b lv W bs) (hb : Below W.heap.size W W') : PSt w0 B b lv W' bs := by
 obtain ⟨p, v, hp, hbk, hown, hnil⟩ := h.pb.ex
 exact ⟨⟨⟨p, v, hp, by rw [hb.block b (je hbk)]; exact hbk, Fx hown hb, hnil⟩, h.pb.lo, Nat.le_trans h.pb.hi hb.size⟩, h.bel.trans (hb.mono h.pb.hi)⟩
theorem fu.ext {w w' : World} (hb : Below w.heap.size w w') (b : Nat) : fu w w' b := fun k C T fz h1 h2 h3 => by rw [hb.block k (je h1)]; exact h1
theorem BxS.ext {w0 : World} {B b : Nat} {lv : Value} {bs : List UInt8} {x : Nat} {k p num : Int} {v nm : Value} {W0 : World} {T : List (List UInt8)} {W W' : World} (h : BxS w0 B b lv bs x k p num v nm W0 T W) (hb : Below W.heap.size W W') : BxS w0 B b lv bs x k p num v nm W0 T W' :=
 ⟨PSt.ext h.st hb, by rw [hb.block x (je h.box)]; exact h.box, h.keep.trans (fu.ext hb b), h.xb⟩
theorem Fy (w : World) (k : Nat) (os : Array Obj) : Below w.heap.size w (grow (w.drewN k) os) := by
 refine ⟨rfl, rfl, rfl, by simp [grow], fun j hj => ?_⟩
 simp [grow, Array.getElem?_append_left hj]
theorem x9 : Tryz.prog.globalNamed "internal/strconv.uint64pow10" = some 2 := by kernel_rfl
theorem Br (n : Int) : Lib.itoa n ≠ [] := by
 unfold Lib.itoa
 split
 ·simp
 ·intro e
  have := congrArg List.length e
  rw [Lib.decDigits] at this
  split at this <;> simp at this
theorem I6 : Lib.formatBool true = [116, 114, 117, 101] := by kernel_rfl
theorem Fz : Lib.formatBool false = [102, 97, 108, 115, 101] := by kernel_rfl
theorem I7 (b : Bool) : Lib.formatBool b ≠ [] := by
 cases b
 ·rw [Fz]; simp
 ·rw [I6]; simp
theorem KO {p : Prop} [Decidable p] {a b : List UInt8} (ha : a ≠ []) (hb : b ≠ []) : (if p then a else b) ≠ [] := by
 by_cases h : p
 ·rw [if_pos h]; exact ha
 ·rw [if_neg h]; exact hb
theorem Ju (n : Int) : opT n ≠ [] := by
 unfold opT
 repeat (refine KO (by simp) ?_)
 simp
theorem uL {w0 : World} {B b : Nat} {lv : Value} {bs : List UInt8} {x : Nat} {k p num : Int} {v nm : Value} {W0 : World} {T : List (List UInt8)} {W : World} (HL : x8 w0 B) (hi : I64 num) (h : BxS w0 B b lv bs x k p num v nm W0 T W) :
  Calls Tryz.prog 53 #[.int .i64 num] W fun e W' => e = .returned (.string ⟨(Lib.itoa num).toArray⟩) /\ BxS w0 B b lv bs x k p num v nm W0 T W' /\ W'.cell? ⟨x, 0, none⟩ = some (.int .i64 k) /\ W'.cell? ⟨x, 2, none⟩ = some v /\ W'.cell? ⟨x, 3, none⟩ = some nm /\ W'.cell? ⟨x, 4, none⟩ = some (.int .i64 num) /\ x < W'.heap.size /\ b < W'.heap.size := by
 have hpow : Lib.TabIs Tryz.prog W "internal/strconv.uint64pow10" .u64 Lib.pow10Tab := var?_below h.st.bel x9 (by have := HL.lo; omega) HL.pow
 refine (Tryz.strconv_Itoa num hi.1 hi.2 W hpow).mono ?_
 rintro e W' ⟨rfl, j, os, rfl⟩
 exact ⟨rfl, (h.ext (Fy W j os)).post.2⟩
end Go.Proofs.YtecodpdfckjalaaGreatDoor
