import Derived.Test.YtecodpdfckjalaaGreatDoorZTB
import Derived.Test.YtecodpdfckjalaaGreatDoorZTPlain
import Derived.Test.YtecodpdfckjalaaGreatDoorZTCurA
set_option linter.unusedVariables false
set_option linter.unusedSimpArgs false
set_option maxHeartbeats 4000000
set_option maxRecDepth 100000
namespace Go.Proofs.YtecodpdfckjalaaGreatDoor
open Go.RowKit
theorem lH : bD [101, 108, 115, 101] := bS (by kernel_rfl)
theorem lI : bD [102, 105, 108, 108] := bS (by kernel_rfl)
theorem xq : bD [105, 102] := bS (by kernel_rfl)
theorem o9 : bD [105, 110, 116] := bS (by kernel_rfl)
theorem pg : bD [108, 101, 110] := bS (by kernel_rfl)
theorem mq : bD [109, 97, 107, 101] := bS (by kernel_rfl)
theorem xu : bD [111, 102] := bS (by kernel_rfl)
theorem lJ : bD [112, 114, 111, 103] := bS (by kernel_rfl)
theorem ja : bD [114, 101, 116, 117, 114, 110] := bS (by kernel_rfl)
theorem jl : bD [115, 101, 108, 101, 99, 116] := bS (by kernel_rfl)
theorem lK : bD [116, 121, 112, 101] := bS (by kernel_rfl)
theorem qX : bD [118, 97, 108] := bS (by kernel_rfl)
theorem qY : bD [118, 97, 114] := bS (by kernel_rfl)
theorem jJ : bD [119, 104, 105, 108, 101] := bS (by kernel_rfl)
theorem Gp : bD [123] := bS (by kernel_rfl)
theorem Gq : bD [125] := bS (by kernel_rfl)
theorem IJ : bD [40] := bS (by kernel_rfl)
theorem IK : bD [41] := bS (by kernel_rfl)
theorem EA : bD [44] := bS (by kernel_rfl)
theorem IL : bD [46] := bS (by kernel_rfl)
theorem EB : bD [58] := bS (by kernel_rfl)
theorem IM : bD [59] := bS (by kernel_rfl)
theorem CE : bD [60, 45] := bS (by kernel_rfl)
theorem uI : bD [60, 45, 61] := bS (by kernel_rfl)
theorem IP : bD [61] := bS (by kernel_rfl)
theorem IQ : bD [91] := bS (by kernel_rfl)
theorem IR : bD [93] := bS (by kernel_rfl)
theorem kE : bD [97, 114, 114, 97, 121] := bS (by kernel_rfl)
theorem j5 : bD [98, 101, 103, 105, 110] := bS (by kernel_rfl)
theorem mr : bD [98, 111, 111, 108] := bS (by kernel_rfl)
theorem ni : bD [99, 104, 97, 110] := bS (by kernel_rfl)
theorem ny : bD [99, 97, 115, 101] := bS (by kernel_rfl)
theorem Gr {p : Prop} [Decidable p] {a b : List UInt8} (h1 : bD a) (h2 : bD b) : bD (if p then a else b) := by split <;> assumption
theorem IU (n : Int) : bD (opT n) := by
 unfold opT
 repeat (refine Gr (bS (by kernel_rfl)) ?_)
 exact bS (by kernel_rfl)
theorem EC (b : Bool) : bD (Lib.formatBool b) := by
 cases b
 ·exact bS (by kernel_rfl)
 ·exact bS (by kernel_rfl)
def gu (ts : List (List UInt8)) : Prop := ∀ t ∈ ts, bD t
theorem all_nil : gu [] := fun t h => by cases h
theorem all_cons {t : List UInt8} {r : List (List UInt8)} : gu (t :: r) ↔ bD t /\ gu r := by simp [gu]
theorem all_append {a b : List (List UInt8)} : gu (a ++ b) ↔ gu a /\ gu b := by
 unfold gu
 constructor
 ·intro h; exact ⟨fun t ht => h t (List.mem_append_left _ ht), fun t ht => h t (List.mem_append_right _ ht)⟩
 ·rintro ⟨h1, h2⟩ t ht
  rcases List.mem_append.1 ht with ht | ht
  ·exact h1 t ht
  ·exact h2 t ht
theorem pu {G : Nat -> List (List UInt8)} {ks : List Nat} (h : ∀ k ∈ ks, gu (G k)) : gu (aS G ks) := by
 intro t ht
 unfold aS at ht
 obtain ⟨k, hk, ht⟩ := List.mem_flatMap.1 ht
 exact h k hk t ht
theorem nX {G : Nat -> List (List UInt8)} {ks : List Nat} (h : ∀ k ∈ ks, gu (G k)) : gu (aT G ks) := by
 match ks, h with
 | [], _ => exact all_nil
 | k :: r, h =>
  show gu (G k ++ _)
  refine all_append.2 ⟨h k List.mem_cons_self, fun t ht => ?_⟩
  obtain ⟨j, hj, ht⟩ := List.mem_flatMap.1 ht
  rcases List.mem_cons.1 ht with rfl | ht
  ·exact EA
  ·exact h j (List.mem_cons_of_mem _ hj) t ht
theorem Bl {G : Nat -> List (List UInt8)} {ks : List Nat} (h : ∀ k ∈ ks, gu (G k)) : gu (gX G ks) := by
 unfold gX
 split
 ·exact all_nil
 ·exact all_append.2 ⟨all_cons.2 ⟨EB, all_nil⟩, pu h⟩
theorem pz {p : Prop} [Decidable p] {a b : List (List UInt8)} (h1 : p -> gu a) (h2 : ¬ p -> gu b) : gu (if p then a else b) := by
 split
 ·exact h1 ‹_›
 ·exact h2 ‹_›
theorem CF (G : Nat -> List (List UInt8)) (kd num : Int) (nm : ByteArray) (ks : List Nat) (h : ∀ k ∈ ks, gu (G k)) (hkind : fZ kd = true) (hnum : bz kd num ks.length = true) (hname : bI kd nm = true) (hi : I64 num) : gu (bq G kd num nm.data.toList ks) := by
 have t : ∀ n, ∀ k ∈ ks.take n, gu (G k) := fun n k hk => h k (List.mem_of_mem_take hk)
 have d : ∀ n, ∀ k ∈ ks.drop n, gu (G k) := fun n k hk => h k (List.mem_of_mem_drop hk)
 have td : ∀ n m, ∀ k ∈ (ks.take n).drop m, gu (G k) := fun n m k hk => h k (List.mem_of_mem_take (List.mem_of_mem_drop hk))
 have r0 := pu h
 have r1 := fun n => pu (t n)
 have r2 := fun n => pu (d n)
 have i0 := nX h
 have i1 := fun n => nX (t n)
 have i2 := fun n => nX (d n)
 have q2 := fun n => Bl (d n)
 have q3 := fun n m => Bl (td n m)
 have y1 := IU num
 have y2 := EC (num == 1)
 have c0 := lH
 have c1 := lI
 have c2 := xq
 have c3 := o9
 have c4 := pg
 have c5 := mq
 have c6 := xu
 have c7 := lJ
 have c8 := ja
 have c9 := jl
 have c10 := lK
 have c11 := qX
 have c12 := qY
 have c13 := jJ
 have c14 := Gp
 have c15 := Gq
 have c16 := IJ
 have c17 := IK
 have c18 := EA
 have c19 := IL
 have c20 := EB
 have c21 := IM
 have c22 := CE
 have c23 := uI
 have c24 := IP
 have c25 := IQ
 have c26 := IR
 have c27 := kE
 have c28 := j5
 have c29 := mr
 have c30 := ni
 have c31 := ny
 rcases mg _ hkind with rfl | rfl | rfl | rfl | rfl | rfl | rfl | rfl | rfl | rfl | rfl | rfl | rfl | rfl | rfl | rfl | rfl | rfl | rfl | rfl | rfl | rfl | rfl | rfl | rfl | rfl | rfl | rfl | rfl | rfl | rfl | rfl | rfl | rfl | rfl | rfl | rfl | rfl
 ·rw [Bb]; simp only [all_append, all_cons, all_nil, and_self, *]
 ·rw [Bc]; simp only [all_append, all_cons, all_nil, and_self, *]
 ·rw [Bd]; have y3 := fQ (show bR nm.data.toList = true from hname); simp only [all_append, all_cons, all_nil, and_self, *]
 ·rw [Be]; simp only [all_append, all_cons, all_nil, and_self, *]
 ·rw [Bf]; simp only [all_append, all_cons, all_nil, and_self, *]
 ·rw [Bg]; simp only [all_append, all_cons, all_nil, and_self, *]
 ·rw [uH]; simp only [all_append, all_cons, all_nil, and_self, *]
 ·rw [wG]; have y3 := xn (of_decide_eq_true (show decide (0 <= num) = true from hnum)) hi; simp only [all_append, all_cons, all_nil, and_self, *]
 ·rw [wH]; simp only [all_append, all_cons, all_nil, and_self, *]
 ·rw [wI]; have y3 := fQ (show bR nm.data.toList = true from hname); simp only [all_append, all_cons, all_nil, and_self, *]
 ·rw [wJ]; simp only [all_append, all_cons, all_nil, and_self, *]
 ·rw [wK]; simp only [all_append, all_cons, all_nil, and_self, *]
 ·rw [wL]; simp only [all_append, all_cons, all_nil, and_self, *]
 ·rw [wM]; simp only [all_append, all_cons, all_nil, and_self, *]
 ·rw [wN]; simp only [all_append, all_cons, all_nil, and_self, *]
 ·rw [wO]; simp only [all_append, all_cons, all_nil, and_self, *]
 ·rw [kT]
  have y4 : gu (if nm.data.toList = [] then [] else [nm.data.toList]) := by
   refine pz (fun _ => all_nil) (fun h0 => ?_)
   have y3 : bD nm.data.toList := by
    have hname : (iN nm || bR nm.data.toList) = true := hname
    rw [Bool.or_eq_true] at hname
    rcases hname with he | he
    ·unfold iN at he
     rw [ByteArray.toList_eq] at he
     exact absurd (List.isEmpty_iff.1 he) h0
    ·exact fQ he
   simp only [all_append, all_cons, all_nil, and_self, *]
  simp only [all_append, all_cons, all_nil, and_self, *]
 ·rw [wP]; simp only [all_append, all_cons, all_nil, and_self, *]
 ·rw [wQ]; simp only [all_append, all_cons, all_nil, and_self, *]
 ·rw [wR]; simp only [all_append, all_cons, all_nil, and_self, *]
 ·rw [wS]; simp only [all_append, all_cons, all_nil, and_self, *]
 ·rw [wT]; have y3 := xn (of_decide_eq_true (show decide (0 <= num) = true from hnum)) hi; simp only [all_append, all_cons, all_nil, and_self, *]
 ·rw [wU]; have y3 := fQ (show bR nm.data.toList = true from hname); simp only [all_append, all_cons, all_nil, and_self, *]
 ·rw [qO]
  have y3 := fQ (show bR nm.data.toList = true from hname)
  have y4 : gu (if ks.length <= 1 then [] else [[61]] ++ aS G (ks.drop 1)) := pz (fun _ => all_nil) (fun _ => by simp only [all_append, all_cons, all_nil, and_self, *])
  simp only [all_append, all_cons, all_nil, and_self, *]
 ·rw [wV]; simp only [all_append, all_cons, all_nil, and_self, *]
 ·rw [wW]; simp only [all_append, all_cons, all_nil, and_self, *]
 ·rw [wX]; simp only [all_append, all_cons, all_nil, and_self, *]
 ·rw [qP]
  have y4 : gu (if ks.length <= 2 then [] else [[101, 108, 115, 101]] ++ aS G (ks.drop 2)) := pz (fun _ => all_nil) (fun _ => by simp only [all_append, all_cons, all_nil, and_self, *])
  simp only [all_append, all_cons, all_nil, and_self, *]
 ·rw [wY]; simp only [all_append, all_cons, all_nil, and_self, *]
 ·rw [wZ]; simp only [all_append, all_cons, all_nil, and_self, *]
 ·rw [w9]; simp only [all_append, all_cons, all_nil, and_self, *]
 ·rw [xc]; simp only [all_append, all_cons, all_nil, and_self, *]
 ·rw [xe]; simp only [all_append, all_cons, all_nil, and_self, *]
 ·rw [xf]; have y3 := fQ (show bR nm.data.toList = true from hname); simp only [all_append, all_cons, all_nil, and_self, *]
 ·rw [qQ]
  have y4 : gu (if nm.data.toList = [] then [] else [nm.data.toList, [61]]) := by
   refine pz (fun _ => all_nil) (fun h0 => ?_)
   have y3 : bD nm.data.toList := by
    have hname : (iN nm || bR nm.data.toList) = true := hname
    rw [Bool.or_eq_true] at hname
    rcases hname with he | he
    ·unfold iN at he
     rw [ByteArray.toList_eq] at he
     exact absurd (List.isEmpty_iff.1 he) h0
    ·exact fQ he
   simp only [all_append, all_cons, all_nil, and_self, *]
  simp only [all_append, all_cons, all_nil, and_self, *]
 ·rw [xg]; simp only [all_append, all_cons, all_nil, and_self, *]
 ·rw [xh]; have y3 := fQ (show bR nm.data.toList = true from hname); simp only [all_append, all_cons, all_nil, and_self, *]
 ·rw [xk]; simp only [all_append, all_cons, all_nil, and_self, *]
theorem ED {l : List Nd} (hok : (bO l).2 = 0) (hw : ∀ j, j < l.length -> I64 (ndN l j).num) : ∀ j, j < l.length -> gu (gG l j) := by
 obtain ⟨hall, _, _⟩ := mi hok
 have hlow : ∀ j, j < l.length -> ∀ k ∈ iV l j, k < j := fun j hj => (hall j hj).low
 intro j
 induction j using Nat.strongRecOn with
 | _ j ih =>
  intro hj
  have h := hall j hj
  rw [qW hlow hj]
  have hnum := h.num
  rw [show (ndN l j).kids.length = (iV l j).length by simp [iV]] at hnum
  exact CF (gG l) _ _ _ _ (fun k hk => by have := hlow j hj k hk; exact ih k this (by omega)) h.kind hnum h.name (hw j hj)
theorem EE {kd : Int} {nm : ByteArray} (h : bI kd nm = true) : nm.data.toList.length <= 32 := by
 unfold bI at h
 have he : ∀ {nm : ByteArray}, iN nm = true -> nm.data.toList.length <= 32 := fun {nm} he => by
  unfold iN at he
  rw [ByteArray.toList_eq] at he
  rw [List.isEmpty_iff.1 he]
  simp
 split at h
 ·rw [Bool.or_eq_true] at h
  rcases h with h | h
  ·exact he h
  ·exact (jy h).2.1
 ·split at h
  ·exact (jy h).2.1
  ·exact he h
theorem sW {l : List Nd} (hok : (bO l).2 = 0) (hw : ∀ j, j < l.length -> I64 (ndN l j).num) (i : Nat) (hi : i < l.length) : cost (gG l i) <= 64 * (i + 1) :=
 Ew (fun j hj => ⟨EE ((mi hok).1 j hj).name, hw j hj⟩) hok i hi
def dQ (ts : List (List UInt8)) : List UInt8 := ts.flatMap fun t => 32 :: t
theorem sZ : ∀ (ts : List (List UInt8)) (bs : List UInt8), bs ≠ [] -> fG bs ts = bs ++ dQ ts
 | [], bs, _ => by simp [wB, dQ]
 | t :: r, bs, h => by
  have hl : ¬ bs.length = 0 := fun e => h (List.eq_nil_of_length_eq_zero e)
  rw [jI]
  unfold lG
  rw [if_neg hl, sZ r _ (by simp)]
  simp [dQ]
theorem qZ (t : List UInt8) (r : List (List UInt8)) (ht : 0 < t.length) : fG [] (t :: r) = t ++ dQ r := by
 rw [jI]
 have e : lG [] t = t := by simp [lG]
 rw [e]
 exact sZ r t (by intro e; rw [e] at ht; simp at ht)
def rf (n : Nat) (t : List UInt8) : Tok := ⟨(bG t 0).1.kind, n, t.length, (bG t 0).1.num⟩
def iQ : Nat -> List (List UInt8) -> List Tok
 | _, [] => []
 | n, t :: r => rf n t :: iQ (n + t.length + 1) r
theorem xw {t : List UInt8} (h : bD t) (r : List (List UInt8)) : bG (t ++ dQ r) 0 = (rf 0 t, 0) := by
 have e : bG (t ++ dQ r) 0 = bG t 0 := by
  match r with
  | [] => simp [dQ]
  | u :: r => 
   have : dQ (u :: r) = 32 :: (u ++ dQ r) := by simp [dQ]
   rw [this]
   exact Cc 32 II _ t 0 h.pos
 rw [e]
 exact h.next
theorem oP : ∀ (ts : List (List UInt8)), gu ts -> ∀ pre : List UInt8, gY (pre ++ dQ ts) pre.length (iQ (pre.length + 1) ts)
 | [], _, pre => by
  show bB (pre ++ dQ []) pre.length = _
  rw [pO _ _ (by simp [dQ])]
  simp [dQ]
 | t :: r, h, pre => by
  obtain ⟨h1, h2⟩ := all_cons.1 h
  have ih := oP r h2 (pre ++ 32 :: t)
  have eA : pre ++ dQ (t :: r) = (pre ++ [32]) ++ (t ++ dQ r) := by simp [dQ]
  have eB : pre ++ dQ (t :: r) = (pre ++ 32 :: t) ++ dQ r := by simp [dQ]
  have eC : pre ++ dQ (t :: r) = pre ++ (32 :: (t ++ dQ r)) := by simp [dQ]
  have e1 : (pre ++ [(32 : UInt8)]).length = pre.length + 1 := by simp
  refine ⟨?_, ?_, ?_, ?_⟩
  ·show bB _ _ = pre.length + 1
   have := yP pre (32 :: (t ++ dQ r)) 0
   rw [Nat.add_zero] at this
   rw [eC, this]
   unfold bB
   have hb : gm ((32 : UInt8).toNat : Int) = true := rfl
   simp only [List.drop_zero, fI, hb, if_true, h1.skip (dQ r)]
  ·show pre.length + 1 < _
   have := h1.pos
   rw [eA]
   simp
   omega
  ·show bG _ (pre.length + 1) = _
   have := Ec (pre ++ [32]) (t ++ dQ r) 0 _ (xw h1 r)
   rw [Nat.add_zero, e1] at this
   rw [eA, this]
   simp [nT, rf]
  ·show gY _ (pre.length + 1 + t.length) (iQ (pre.length + 1 + t.length + 1) r)
   rw [eB]
   have : (pre ++ 32 :: t).length = pre.length + 1 + t.length := by simp; omega
   rw [this] at ih
   exact ih
theorem zY : ∀ (ts : List (List UInt8)), gu ts -> gY (fG [] ts) 0 (iQ 0 ts)
 | [], _ => rfl
 | t :: r, h => by
  obtain ⟨h1, h2⟩ := all_cons.1 h
  rw [qZ t r h1.pos]
  have hp := h1.pos
  refine ⟨?_, ?_, xw h1 r, ?_⟩
  ·show bB _ 0 = 0
   unfold bB
   rw [List.drop_zero, h1.skip, Nat.zero_add]
  ·show 0 < _
   simp
   omega
  ·show gY _ (0 + t.length) (iQ (0 + t.length + 1) r)
   rw [Nat.zero_add]
   exact oP r h2 t
theorem EF {ts : List (List UInt8)} (h : gu ts) (hl : (fG [] ts).length <= 65536) : aA (fG [] ts) = (iQ 0 ts, 0, 0) :=
 kM _ _ (zY ts h) hl
end Go.Proofs.YtecodpdfckjalaaGreatDoor
namespace Go.Proofs.YtecodpdfckjalaaGreatDoor
theorem iI {α : Type} {s : List α × Bool} (h : fB s = true) : s.2 = false /\ s.1 = [] := by
 unfold fB at h
 simp only [Bool.and_eq_true, Bool.not_eq_true', beq_iff_eq] at h
 exact ⟨h.1, List.eq_nil_of_length_eq_zero h.2⟩
theorem fU {α : Type} {p : α -> Bool} {s : List α × Bool} (h : (aV p s).2 = false) : s.2 = false /\ ∃ a, p a = true /\ s.1 = a :: (aV p s).1 := by
 obtain ⟨l, b⟩ := s
 match l with
 | [] => simp [aV, took] at h
 | a :: r =>
  simp only [aV, took, Bool.or_eq_false_iff, Bool.not_eq_false'] at h
  refine ⟨h.1, a, h.2, ?_⟩
  simp [aV, gW, h.2]
theorem rq {α : Type} {p : α -> Bool} {s : List α × Bool} (h : (dn p s).2 = false) : s.2 = false /\ ∃ xs, (∀ x ∈ xs, p x = true) /\ s.1 = xs ++ (dn p s).1 := by
 obtain ⟨l, b⟩ := s
 refine ⟨h, l.takeWhile p, fun x hx => ?_, ?_⟩
 ·induction l with
  | nil => cases hx
  | cons a r ih =>
   rw [List.takeWhile_cons] at hx
   split at hx
   ·rename_i ha
    rcases List.mem_cons.1 hx with rfl | hx
    ·exact ha
    ·exact ih h hx
   ·cases hx
 ·simp only [dn]
  exact (List.takeWhile_append_dropWhile).symm
theorem Bn {α : Type} {p : α -> Bool} {s : List α × Bool} (h : (ik p s).2 = false) : s.2 = false /\ (s.1 = (ik p s).1 ∨ ∃ a, p a = true /\ s.1 = a :: (ik p s).1) := by
 obtain ⟨l, b⟩ := s
 refine ⟨h, ?_⟩
 match l with
 | [] => exact .inl rfl
 | a :: r =>
  by_cases hp : p a = true
  ·exact .inr ⟨a, hp, by simp [ik, gW, hp]⟩
  ·exact .inl (by simp [ik, gW, hp])
theorem KM {α : Type} {p : α -> Bool} {ks : List α} (h : fB (aV p (ks, false)) = true) : ∃ a, p a = true /\ ks = [a] := by
 obtain ⟨h1, h2⟩ := iI h
 obtain ⟨_, a, ha, e⟩ := fU h1
 rw [h2] at e
 exact ⟨a, ha, e⟩
theorem Gs {α : Type} {p q : α -> Bool} {ks : List α} (h : fB (aV q (aV p (ks, false))) = true) : ∃ a b, p a = true /\ q b = true /\ ks = [a, b] := by
 obtain ⟨h1, h2⟩ := iI h
 obtain ⟨h3, b, hb, e⟩ := fU h1
 rw [h2] at e
 obtain ⟨_, a, ha, e2⟩ := fU h3
 rw [e] at e2
 exact ⟨a, b, ha, hb, e2⟩
theorem KN {α : Type} {p q r : α -> Bool} {ks : List α} (h : fB (aV r (aV q (aV p (ks, false)))) = true) : ∃ a b c, p a = true /\ q b = true /\ r c = true /\ ks = [a, b, c] := by
 obtain ⟨h1, h2⟩ := iI h
 obtain ⟨h3, c, hc, e⟩ := fU h1
 rw [h2] at e
 obtain ⟨h4, b, hb, e2⟩ := fU h3
 rw [e] at e2
 obtain ⟨_, a, ha, e3⟩ := fU h4
 rw [e2] at e3
 exact ⟨a, b, c, ha, hb, hc, e3⟩
theorem JO {α : Type} {p q : α -> Bool} {ks : List α} (h : fB (dn q (aV p (ks, false))) = true) : ∃ a r, p a = true /\ (∀ x ∈ r, q x = true) /\ ks = a :: r := by
 obtain ⟨h1, h2⟩ := iI h
 obtain ⟨h3, xs, hx, e⟩ := rq h1
 rw [h2, List.append_nil] at e
 obtain ⟨_, a, ha, e2⟩ := fU h3
 rw [e] at e2
 exact ⟨a, xs, ha, hx, e2⟩
theorem JP {α : Type} {p q : α -> Bool} {ks : List α} (h : fB (ik q (aV p (ks, false))) = true) : (∃ a, p a = true /\ ks = [a]) ∨ ∃ a b, p a = true /\ q b = true /\ ks = [a, b] := by
 obtain ⟨h1, h2⟩ := iI h
 obtain ⟨h3, e⟩ := Bn h1
 rw [h2] at e
 obtain ⟨_, a, ha, e2⟩ := fU h3
 rcases e with e | ⟨b, hb, e⟩
 ·rw [e] at e2
  exact .inl ⟨a, ha, e2⟩
 ·rw [e] at e2
  exact .inr ⟨a, b, ha, hb, e2⟩
theorem JQ {α : Type} {p q r : α -> Bool} {ks : List α} (h : fB (ik r (aV q (aV p (ks, false)))) = true) : (∃ a b, p a = true /\ q b = true /\ ks = [a, b]) ∨ ∃ a b c, p a = true /\ q b = true /\ r c = true /\ ks = [a, b, c] := by
 obtain ⟨h1, h2⟩ := iI h
 obtain ⟨h3, e⟩ := Bn h1
 rw [h2] at e
 obtain ⟨h4, b, hb, e2⟩ := fU h3
 obtain ⟨_, a, ha, e3⟩ := fU h4
 rcases e with e | ⟨c, hc, e⟩
 ·rw [e] at e2
  rw [e2] at e3
  exact .inl ⟨a, b, ha, hb, e3⟩
 ·rw [e] at e2
  rw [e2] at e3
  exact .inr ⟨a, b, c, ha, hb, hc, e3⟩
theorem JR {α : Type} {p q : α -> Bool} {ks : List α} (h : fB (aV q (dn p (ks, false))) = true) : ∃ r z, (∀ x ∈ r, p x = true) /\ q z = true /\ ks = r ++ [z] := by
 obtain ⟨h1, h2⟩ := iI h
 obtain ⟨h3, z, hz, e⟩ := fU h1
 rw [h2] at e
 obtain ⟨_, xs, hx, e2⟩ := rq h3
 rw [e] at e2
 exact ⟨xs, z, hx, hz, e2⟩
theorem JS {α : Type} {p q r : α -> Bool} {ks : List α} (h : fB (aV r (aV q (dn p (ks, false)))) = true) : ∃ xs y z, (∀ x ∈ xs, p x = true) /\ q y = true /\ r z = true /\ ks = xs ++ [y, z] := by
 obtain ⟨h1, h2⟩ := iI h
 obtain ⟨h3, z, hz, e⟩ := fU h1
 rw [h2] at e
 obtain ⟨h4, y, hy, e2⟩ := fU h3
 rw [e] at e2
 obtain ⟨_, xs, hx, e3⟩ := rq h4
 rw [e2] at e3
 exact ⟨xs, y, z, hx, hy, hz, e3⟩
end Go.Proofs.YtecodpdfckjalaaGreatDoor
namespace Go.Proofs.YtecodpdfckjalaaGreatDoor
open Go.RowKit
def xx (t : List UInt8) : ax := ⟨(bG t 0).1.kind, 0, (bG t 0).1.num, t⟩
def lev (l : List Nd) (k : Nat) : Int := dL (ndN l k).kind (ndN l k).num
def nz (kd : Int) (nm : List UInt8) : Bool :=
 if kd = 20 ∨ kd = 43 then nm.isEmpty || bR nm
 else if kd = 3 ∨ kd = 13 ∨ kd = 31 ∨ kd = 32 ∨ kd = 42 ∨ kd = 45 then bR nm
 else nm.isEmpty
theorem sj (k : Int) (nm : ByteArray) : bI k nm = nz k nm.data.toList := by
 unfold bI nz iN
 rw [ByteArray.toList_eq]
end Go.Proofs.YtecodpdfckjalaaGreatDoor
namespace Go.Proofs.YtecodpdfckjalaaGreatDoor
mutual
def Tr.size : Tr -> Nat
 | .mk _ _ _ _ ks => sizes ks + 1
def sizes : List Tr -> Nat
 | [] => 0
 | t :: r => t.size + sizes r
end
def ends : List Tr -> Nat -> List Int
 | [], _ => []
 | t :: r, o => ((o + t.size - 1 : Nat) : Int) :: ends r (o + t.size)
mutual
def flat : Tr -> Nat -> List Nd
 | .mk k p n nm ks, o => ag ks o ++ [⟨k, p, ends ks o, ⟨nm.toArray⟩, n⟩]
def ag : List Tr -> Nat -> List Nd
 | [], _ => []
 | t :: r, o => flat t o ++ ag r (o + t.size)
end
mutual
theorem ic : ∀ (t : Tr) (o : Nat), (flat t o).length = t.size
 | .mk k p n nm ks, o => by
  rw [flat, Tr.size, List.length_append, ek ks o]
  rfl
theorem ek : ∀ (ts : List Tr) (o : Nat), (ag ts o).length = sizes ts
 | [], o => rfl
 | t :: r, o => by
  rw [ag, sizes, List.length_append, ic t o, ek r]
end
theorem jm (t : Tr) : 1 <= t.size := by
 cases t
 rw [Tr.size]
 omega
theorem aH : ∀ (a b : List Tr), sizes (a ++ b) = sizes a + sizes b
 | [], b => by simp [sizes]
 | t :: r, b => by
  rw [List.cons_append, sizes, sizes, aH r b]
  omega
end Go.Proofs.YtecodpdfckjalaaGreatDoor
namespace Go.Proofs.YtecodpdfckjalaaGreatDoor
open Go.RowKit
def Tr.kd : Tr -> Int
 | .mk k _ _ _ _ => k
def Tr.nu : Tr -> Int
 | .mk _ _ n _ _ => n
def Tr.lv (t : Tr) : Int := dL t.kd t.nu
mutual
def CG : Tr -> Bool
 | .mk k _ n _ ks => if 22 <= k /\ k <= 25 then zZ ks else k == 21 && n == 3
def zZ : List Tr -> Bool
 | [] => false
 | t :: _ => CG t
end
def lvs (k n : Int) : Nat -> List Tr -> Prop
 | _, [] => True
 | p, t :: r => eO k n p <= t.lv /\ lvs k n (p + 1) r
mutual
def WT : Tr -> Prop
 | .mk k p n nm ks => (fZ k = true /\ bz k n ks.length = true /\ nz k nm = true /\ aD Tr.kd k n ks = true /\ lvs k n 0 ks /\ (k = 44 -> zZ ks = false)) /\ WTs ks
def WTs : List Tr -> Prop
 | [] => True
 | t :: r => WT t /\ WTs r
end
theorem xy {α β : Type} (p : β -> Bool) (g : α -> β) : ∀ l : List α, gW p (l.map g) = (gW (p ∘ g) l).map g
 | [] => rfl
 | x :: r => by
  simp only [List.map_cons, gW, Function.comp]
  split <;> rfl
theorem EG {α β : Type} (p : β -> Bool) (g : α -> β) (l : List α) : took p (l.map g) = took (p ∘ g) l := by cases l <;> rfl
def kU {α β : Type} (g : α -> β) (s : List α × Bool) : List β × Bool := (s.1.map g, s.2)
theorem xz {α β : Type} (p : β -> Bool) (g : α -> β) (s : List α × Bool) : ik p (kU g s) = kU g (ik (p ∘ g) s) := by
 simp only [ik, kU, xy]
theorem ru {α β : Type} (p : β -> Bool) (g : α -> β) (s : List α × Bool) : aV p (kU g s) = kU g (aV (p ∘ g) s) := by
 simp only [aV, kU, xy, EG]
theorem tq {α β : Type} (p : β -> Bool) (g : α -> β) : ∀ l : List α, (l.map g).dropWhile p = (l.dropWhile (p ∘ g)).map g
 | [] => rfl
 | x :: r => by
  simp only [List.map_cons, List.dropWhile_cons, Function.comp]
  split
  ·exact tq p g r
  ·rfl
theorem tu {α β : Type} (p : β -> Bool) (g : α -> β) (s : List α × Bool) : dn p (kU g s) = kU g (dn (p ∘ g) s) := by
 simp only [dn, kU, tq]
theorem nY {α β : Type} (p : β -> Bool) (g : α -> β) : ∀ (n : Nat) (s : List α × Bool), jv p n (kU g s) = kU g (jv (p ∘ g) n s)
 | 0, s => rfl
 | n + 1, s => by rw [jv, jv, ru, nY p g n]
theorem xA {α β : Type} (f : β -> Int) (g : α -> β) (k n : Int) (s : List α × Bool) : aF f k n (kU g s) = kU g (aF (f ∘ g) k n s) := by
 unfold aF
 by_cases hn : n = 1
 ·simp only [if_pos hn, apply_ite (kU g), tu, ru, xz, nY]
  rfl
 ·simp only [if_neg hn, apply_ite (kU g), tu, ru, xz, nY]
  rfl
theorem oQ {α β : Type} (f : β -> Int) (g : α -> β) (k n : Int) (ks : List α) : aD f k n (ks.map g) = aD (f ∘ g) k n ks := by
 have h := xA f g k n (ks, false)
 unfold aD
 rw [show ((ks.map g), false) = kU g (ks, false) from rfl, h]
 simp [fB, kU]
theorem lT {α β : Type} (f : α -> Int) (g : β -> Int) (k n : Int) (xs : List α) (ys : List β) (h : xs.map f = ys.map g) : aD f k n xs = aD g k n ys := by
 have h1 := oQ id f k n xs
 have h2 := oQ id g k n ys
 rw [h] at h1
 exact h1.symm.trans h2
def xB (t : Tr) (o : Nat) : Nd :=
 match t with
 | .mk k p n nm ks => ⟨k, p, ends ks o, ⟨nm.toArray⟩, n⟩
theorem nA (t : Tr) (A B : List Nd) : ndN (A ++ flat t A.length ++ B) (A.length + t.size - 1) = xB t A.length := by
 cases t with
 | mk k p n nm ks =>
  have e : A.length + (Tr.mk k p n nm ks).size - 1 = (A ++ ag ks A.length).length := by simp [Tr.size, ek]
  rw [e, flat]
  unfold ndN
  rw [List.getD_eq_getElem?_getD, show A ++ (ag ks A.length ++ [(⟨k, p, ends ks A.length, ⟨nm.toArray⟩, n⟩ : Nd)]) ++ B = (A ++ ag ks A.length) ++ ((⟨k, p, ends ks A.length, ⟨nm.toArray⟩, n⟩ : Nd) :: B) by simp, List.getElem?_append_right (Nat.le_refl _)]
  simp [xB]
theorem uJ (G : Nd -> Int) (g : Tr -> Int) (hG : ∀ t o, G (xB t o) = g t) : ∀ (ks : List Tr) (A B : List Nd), (ends ks A.length).map (fun k => G (ndN (A ++ ag ks A.length ++ B) k.toNat)) = ks.map g
 | [], A, B => rfl
 | t :: r, A, B => by
  have e1 : A ++ ag (t :: r) A.length ++ B = A ++ flat t A.length ++ (ag r (A.length + t.size) ++ B) := by rw [ag]; simp [List.append_assoc]
  have e2 : A ++ ag (t :: r) A.length ++ B = (A ++ flat t A.length) ++ ag r (A ++ flat t A.length).length ++ B := by rw [ag]; simp [List.append_assoc, ic]
  have ih := uJ G g hG r (A ++ flat t A.length) B
  rw [← e2] at ih
  have el : (A ++ flat t A.length).length = A.length + t.size := by simp [ic]
  rw [el] at ih
  rw [ends, List.map_cons, List.map_cons, ih, Int.toNat_natCast, e1, nA, hG]
mutual
def fl : Tr -> Nat -> List Nat
 | .mk _ _ _ _ ks, o => fls ks o ++ [o]
def fls : List Tr -> Nat -> List Nat
 | [], _ => []
 | t :: r, o => fl t o ++ fls r (o + t.size)
end
mutual
theorem nZ : ∀ (t : Tr) (o : Nat), (fl t o).length = t.size
 | .mk k p n nm ks, o => by rw [fl, Tr.size, List.length_append, uK ks o]; rfl
theorem uK : ∀ (ts : List Tr) (o : Nat), (fls ts o).length = sizes ts
 | [], o => rfl
 | t :: r, o => by rw [fls, sizes, List.length_append, nZ t o, uK r]
end
theorem Gt (t : Tr) (o : Nat) : ∃ q, fl t o = q ++ [o] := by
 cases t with
 | mk k p n nm ks => exact ⟨fls ks o, by rw [fl]⟩
theorem EH (t : Tr) (F R : List Nat) : (F ++ fl t F.length ++ R).getD (F.length + t.size - 1) 0 = F.length := by
 obtain ⟨q, hq⟩ := Gt t F.length
 have hl := nZ t F.length
 rw [hq] at hl ⊢
 simp only [List.length_append, List.length_singleton] at hl
 rw [List.getD_eq_getElem?_getD, show F ++ (q ++ [F.length]) ++ R = (F ++ q) ++ (F.length :: R) by simp, show F.length + t.size - 1 = (F ++ q).length by simp; omega, List.getElem?_append_right (Nat.le_refl _)]
 simp
theorem ry (fs : List Nat) : ∀ (a b : List Int) (nx : Int), dx fs nx (a ++ b) = true ↔ (dx fs nx a = true /\ dx fs (match a.getLast? with | none => nx | some k => (fs.getD k.toNat 0 : Nat)) b = true)
 | [], b, nx => by simp [dx]
 | [x], b, nx => by
  simp only [List.cons_append, List.nil_append, dx, List.getLast?_singleton]
  split <;> simp
 | x :: y :: r, b, nx => by
  have ih := ry fs (y :: r) b
  rw [List.cons_append, dx]
  rw [show dx fs nx (x :: y :: r) = if x = nx - 1 /\ 0 <= x then dx fs (fs.getD x.toNat 0) (y :: r) else false from rfl]
  split
  ·rw [ih, List.getLast?_cons_cons]
   have hz : (y :: r).getLast? = some ((y :: r).getLast (by simp)) := List.getLast?_eq_some_getLast (by simp)
   rw [hz]
  ·simp
theorem mD : ∀ (ks : List Tr) (F R : List Nat), eZ (F ++ fls ks F.length ++ R) (F.length + sizes ks) (ends ks F.length) = true /\ (match ends ks F.length with | [] => True | k :: _ => (F ++ fls ks F.length ++ R).getD k.toNat 0 = F.length)
 | [], F, R => ⟨by simp [eZ, ends, dx], trivial⟩
 | t :: r, F, R => by
  have hp := jm t
  have ef : F ++ fls (t :: r) F.length ++ R = F ++ fl t F.length ++ (fls r (F.length + t.size) ++ R) := by rw [fls]; simp [List.append_assoc]
  have eg : F ++ fls (t :: r) F.length ++ R = (F ++ fl t F.length) ++ fls r (F ++ fl t F.length).length ++ R := by rw [fls]; simp [List.append_assoc, nZ]
  have el : (F ++ fl t F.length).length = F.length + t.size := by simp [nZ]
  obtain ⟨i1, i2⟩ := mD r (F ++ fl t F.length) R
  rw [← eg, el] at i1 i2
  have he := EH t F (fls r (F.length + t.size) ++ R)
  rw [← ef] at he
  rw [ends]
  refine ⟨?_, by simp only [Int.toNat_natCast]; exact he⟩
  unfold eZ at i1 ⊢
  rw [List.reverse_cons, ry]
  rw [show F.length + sizes (t :: r) = F.length + t.size + sizes r by rw [sizes]; omega]
  refine ⟨i1, ?_⟩
  have hnx : (match (ends r (F.length + t.size)).reverse.getLast? with | none => ((F.length + t.size + sizes r : Nat) : Int) | some k => ((F ++ fls (t :: r) F.length ++ R).getD k.toNat 0 : Nat)) = ((F.length + t.size : Nat) : Int) := by
   cases r with
   | nil => simp [ends, sizes]
   | cons t2 r2 =>
    rw [List.getLast?_reverse]
    simp only [ends, List.head?_cons] at i2 ⊢
    rw [i2]
  rw [hnx, dx, if_pos ⟨by omega, by omega⟩]
  rfl
theorem tC : ∀ (ks : List Tr) (o : Nat), (ends ks o).length = ks.length
 | [], o => rfl
 | t :: r, o => by rw [ends, List.length_cons, List.length_cons, tC r]
theorem tF (l : List Nd) (k n : Int) (p0 : Int) (ks0 : List Int) (nm : ByteArray) : ∀ (ks : List Tr) (es : List Int) (p : Nat), es.map (fun e => dL (ndN l e.toNat).kind (ndN l e.toNat).num) = ks.map Tr.lv -> lvs k n p ks -> gy l ⟨k, p0, ks0, nm, n⟩ p es = true
 | [], [], p, _, _ => rfl
 | [], e :: es, p, h, _ => by simp at h
 | t :: r, [], p, h, _ => by simp at h
 | t :: r, e :: es, p, h, hl => by
  simp only [List.map_cons, List.cons.injEq] at h
  rw [lvs] at hl
  rw [gy]
  have e1 : dL (mM l e).kind (mM l e).num = t.lv := h.1
  rw [e1, if_neg (by have := hl.1; simp only; omega)]
  exact tF l k n p0 ks0 nm r es (p + 1) h.2 hl.2
theorem rz {k num : Int} {ks : List Tr} (h : aD Tr.kd k num ks = true) (hk : 22 <= k /\ k <= 25 ∨ k = 44) : ks ≠ [] := by
 intro e
 subst e
 have h2 := (lT Tr.kd (fun _ : Nat => (0 : Int)) k num [] [] rfl).symm.trans h
 exact uF h2 (by omega) rfl
theorem Bo (k : Int) (p : Nat) (n : Int) (nm : List UInt8) (ks : List Tr) (A B : List Nd) : ndN (A ++ flat (.mk k p n nm ks) A.length ++ B) (A.length + sizes ks) = ⟨k, p, ends ks A.length, ⟨nm.toArray⟩, n⟩ := by
 have := nA (.mk k p n nm ks) A B
 rw [Tr.size, show A.length + (sizes ks + 1) - 1 = A.length + sizes ks by omega] at this
 exact this
theorem j6 (k : Int) (p : Nat) (n : Int) (nm : List UInt8) (ks : List Tr) (A B : List Nd) : A ++ flat (.mk k p n nm ks) A.length ++ B = A ++ ag ks A.length ++ (⟨k, p, ends ks A.length, ⟨nm.toArray⟩, n⟩ :: B) := by
 rw [flat]; simp [List.append_assoc]
mutual
theorem CJ : ∀ (t : Tr) (A B : List Nd) (f : Nat), WT t -> t.size <= f -> dK (A ++ flat t A.length ++ B) f ((A.length + t.size - 1 : Nat) : Int) = CG t
 | .mk k p n nm ks, A, B, f, hw, hf => by
  rw [Tr.size] at hf
  obtain ⟨g, rfl⟩ : ∃ g, f = g + 1 := ⟨f - 1, by omega⟩
  rw [WT] at hw
  have hn : mM (A ++ flat (.mk k p n nm ks) A.length ++ B) ((A.length + (Tr.mk k p n nm ks).size - 1 : Nat) : Int) = ⟨k, p, ends ks A.length, ⟨nm.toArray⟩, n⟩ := by
   have := nA (.mk k p n nm ks) A B
   unfold mM
   rw [Int.toNat_natCast]
   exact this
  rw [dK, hn, CG]
  simp only
  split
  ·rename_i hk
   have hne := rz hw.1.2.2.2.1 (Or.inl hk)
   have ih := tH ks A (⟨k, p, ends ks A.length, ⟨nm.toArray⟩, n⟩ :: B) g hw.2 hne (by omega)
   rw [← j6] at ih
   exact ih
  ·rfl
theorem tH : ∀ (ts : List Tr) (A B : List Nd) (f : Nat), WTs ts -> ts ≠ [] -> sizes ts <= f -> dK (A ++ ag ts A.length ++ B) f ((ends ts A.length).getD 0 0) = zZ ts
 | [], A, B, f, hw, hne, hf => absurd rfl hne
 | t :: r, A, B, f, hw, hne, hf => by
  rw [WTs] at hw
  rw [sizes] at hf
  have ih := CJ t A (ag r (A.length + t.size) ++ B) f hw.1 (by omega)
  rw [zZ, ends, ag]
  rw [show A ++ (flat t A.length ++ ag r (A.length + t.size)) ++ B = A ++ flat t A.length ++ (ag r (A.length + t.size) ++ B) by simp [List.append_assoc]]
  exact ih
end
theorem EI (k : Int) (p : Nat) (n : Int) (nm : List UInt8) (ks : List Tr) (A B : List Nd) (F : List Nat) (hF : F.length = A.length) (hw : WT (.mk k p n nm ks)) : bY (A ++ flat (.mk k p n nm ks) A.length ++ B) (F ++ fls ks F.length) (A.length + sizes ks) = 0 := by
 have hr := Bo k p n nm ks A B
 have hs := j6 k p n nm ks A B
 rw [WT] at hw
 obtain ⟨⟨h1, h3, h4, h5, h6, h7⟩, h8⟩ := hw
 unfold bY
 rw [hr]
 simp only
 rw [if_neg (by simp only [h1, not_or]; exact ⟨by simp, by omega⟩), tC, if_neg (by simp [h3]), if_neg (by rw [sj, h4]; simp)]
 have ho := (mD ks F []).1
 rw [List.append_nil, hF] at ho
 have hk : aD (kdN (A ++ flat (.mk k p n nm ks) A.length ++ B)) k n ((ends ks A.length).map Int.toNat) = true := by
  rw [hs, ← h5]
  apply lT
  rw [List.map_map]
  exact uJ Nd.kind Tr.kd (fun t o => by cases t; rfl) ks A _
 rw [if_neg (by rw [hF, ho, hk]; simp)]
 have hl : dH (A ++ flat (.mk k p n nm ks) A.length ++ B) ⟨k, p, ends ks A.length, ⟨nm.toArray⟩, n⟩ = true := by
  unfold dH
  rw [Bool.and_eq_true]
  constructor
  ·apply tF _ k n _ _ _ ks _ 0 _ h6
   rw [hs]
   exact uJ (fun nd => dL nd.kind nd.num) Tr.lv (fun t o => by cases t; rfl) ks A _
  ·simp only
   by_cases hk : k = 44
   ·have hb := tH ks A (⟨k, p, ends ks A.length, ⟨nm.toArray⟩, n⟩ :: B) ((A ++ flat (.mk k p n nm ks) A.length ++ B).length + 1) h8 (rz h5 (Or.inr hk)) (by rw [hs]; simp [ek]; omega)
    rw [← hs, h7 hk] at hb
    rw [hb]
    simp
   ·simp [hk]
 rw [if_neg (by rw [hl]; simp)]
theorem CK (k : Int) (p : Nat) (n : Int) (nm : List UInt8) (ks : List Tr) (A : List Nd) (F : List Nat) (hF : F.length = A.length) : dO (F ++ fls ks F.length) ⟨k, p, ends ks A.length, ⟨nm.toArray⟩, n⟩ (A.length + sizes ks) = A.length := by
 have ho := (mD ks F []).2
 rw [List.append_nil, hF] at ho
 unfold dO
 simp only
 rw [hF]
 cases ks with
 | nil => simp [ends, sizes]
 | cons t r =>
  simp only [ends] at ho ⊢
  exact ho
mutual
theorem Bp : ∀ (t : Tr) (A B : List Nd) (F : List Nat) (m : Nat), F.length = A.length -> WT t -> fo (A ++ flat t A.length ++ B) (t.size + m) F = fo (A ++ flat t A.length ++ B) m (F ++ fl t F.length)
 | .mk k p n nm ks, A, B, F, m, hF, hw => by
  have ih := xC ks A (⟨k, p, ends ks A.length, ⟨nm.toArray⟩, n⟩ :: B) F (m + 1) hF (by rw [WT] at hw; exact hw.2)
  rw [← j6] at ih
  have hlen : (F ++ fls ks F.length).length = A.length + sizes ks := by simp [uK, hF]
  rw [Tr.size, show sizes ks + 1 + m = sizes ks + (m + 1) by omega, ih, fo, hlen, if_pos (EI k p n nm ks A B F hF hw), Bo, CK k p n nm ks A F hF, fl, hF, List.append_assoc F]
theorem xC : ∀ (ts : List Tr) (A B : List Nd) (F : List Nat) (m : Nat), F.length = A.length -> WTs ts -> fo (A ++ ag ts A.length ++ B) (sizes ts + m) F = fo (A ++ ag ts A.length ++ B) m (F ++ fls ts F.length)
 | [], A, B, F, m, hF, hw => by simp [ag, sizes, fls]
 | t :: r, A, B, F, m, hF, hw => by
  rw [WTs] at hw
  have i1 := Bp t A (ag r (A.length + t.size) ++ B) F (sizes r + m) hF hw.1
  have i2 := xC r (A ++ flat t A.length) B (F ++ fl t F.length) m (by simp [nZ, ic, hF]) hw.2
  have e1 : (A ++ flat t A.length).length = A.length + t.size := by simp [ic]
  have e2 : (F ++ fl t F.length).length = F.length + t.size := by simp [nZ]
  rw [e1, e2] at i2
  have e : A ++ ag (t :: r) A.length ++ B = A ++ flat t A.length ++ (ag r (A.length + t.size) ++ B) := by rw [ag]; simp [List.append_assoc]
  have e' : A ++ flat t A.length ++ ag r (A.length + t.size) ++ B = A ++ flat t A.length ++ (ag r (A.length + t.size) ++ B) := by simp [List.append_assoc]
  rw [e'] at i2
  rw [e, sizes, fls, show t.size + sizes r + m = t.size + (sizes r + m) by omega, i1, i2, List.append_assoc F]
end
theorem z8 (t : Tr) (hw : WT t) (hk : t.kd = 46) : bO (flat t 0) = (0, 0) := by
 have h := Bp t [] [] [] 0 rfl hw
 simp only [List.nil_append, List.append_nil, List.length_nil, Nat.add_zero] at h
 have hr := nA t [] []
 simp only [List.nil_append, List.append_nil, List.length_nil, Nat.zero_add] at hr
 have hf := EH t [] []
 simp only [List.nil_append, List.append_nil, List.length_nil, Nat.zero_add] at hf
 have hp := jm t
 unfold bO
 rw [ic, h, fo]
 unfold wh kdN
 rw [ic, hr, hf, if_neg]
 have hk2 : (xB t 0).kind = 46 := by rw [← hk]; cases t; rfl
 rw [hk2]
 omega
def bH (ks : List (List (List UInt8))) : List (List UInt8) := ks.flatten
def dz : List (List (List UInt8)) -> List (List UInt8)
 | [] => []
 | k :: r => k ++ (r.flatMap fun x => [44] :: x)
def uL (ks : List (List (List UInt8))) : List (List UInt8) := if ks.isEmpty then [] else [[58]] ++ bH ks
def cK (kd num : Int) (nm : List UInt8) (ks : List (List (List UInt8))) : List (List UInt8) :=
 if kd = 1 then [[105, 110, 116]]
 else if kd = 2 then [[98, 111, 111, 108]]
 else if kd = 3 then [nm]
 else if kd = 4 then [[97, 114, 114, 97, 121], [111, 102]] ++ bH ks
 else if kd = 5 then ([[40]] ++ dz ks ++ [[41]])
 else if kd = 6 then [[99, 104, 97, 110], [111, 102]] ++ bH ks
 else if kd = 7 then [[112, 114, 111, 103]] ++ ([[40]] ++ dz (ks.take (ks.length - num.toNat)) ++ [[41]]) ++ uL (ks.drop (ks.length - num.toNat))
 else if kd = 11 then [Lib.itoa num]
 else if kd = 12 then [Lib.formatBool (num == 1)]
 else if kd = 13 then [nm]
 else if kd = 14 then ([[40]] ++ dz ks ++ [[41]])
 else if kd = 15 then ([[40]] ++ dz ks ++ [[41]])
 else if kd = 16 then ([[91]] ++ dz ks ++ [[93]])
 else if kd = 17 then [[102, 105, 108, 108]] ++ ([[40]] ++ dz ks ++ [[41]])
 else if kd = 18 then [[108, 101, 110]] ++ ([[40]] ++ dz ks ++ [[41]])
 else if kd = 19 then [[109, 97, 107, 101]] ++ bH ks
 else if kd = 20 then [[112, 114, 111, 103]] ++ (if nm = [] then [] else [nm]) ++ ([[40]] ++ dz (ks.take (ks.length - 1 - num.toNat)) ++ [[41]]) ++ uL ((ks.take (ks.length - 1)).drop (ks.length - 1 - num.toNat)) ++ bH (ks.drop (ks.length - 1))
 else if kd = 21 then [opT num] ++ bH ks
 else if kd = 22 then bH (ks.take 1) ++ [opT num] ++ bH (ks.drop 1)
 else if kd = 23 then bH (ks.take 1) ++ ([[40]] ++ dz (ks.drop 1) ++ [[41]])
 else if kd = 24 then bH (ks.take 1) ++ ([[91]] ++ dz (ks.drop 1) ++ [[93]])
 else if kd = 25 then bH (ks.take 1) ++ [[46], Lib.itoa num]
 else if kd = 31 then [[118, 97, 108], nm, [61]] ++ bH ks ++ [[59]]
 else if kd = 32 then [[118, 97, 114], nm, [58]] ++ bH (ks.take 1) ++ (if ks.length <= 1 then [] else [[61]] ++ bH (ks.drop 1)) ++ [[59]]
 else if kd = 33 then bH (ks.take 1) ++ [[61]] ++ bH (ks.drop 1) ++ [[59]]
 else if kd = 34 then bH (ks.take 1) ++ [[60, 45, 61]] ++ bH (ks.drop 1) ++ [[59]]
 else if kd = 35 then bH ks ++ [[59]]
 else if kd = 36 then [[105, 102]] ++ bH (ks.take 2) ++ (if ks.length <= 2 then [] else [[101, 108, 115, 101]] ++ bH (ks.drop 2))
 else if kd = 37 then [[119, 104, 105, 108, 101]] ++ bH ks
 else if kd = 38 then [[114, 101, 116, 117, 114, 110]] ++ bH ks ++ [[59]]
 else if kd = 39 then [[98, 101, 103, 105, 110]] ++ bH ks ++ [[59]]
 else if kd = 40 then [[115, 101, 108, 101, 99, 116], [123]] ++ bH ks ++ [[125]]
 else if kd = 41 then [[123]] ++ bH ks ++ [[125]]
 else if kd = 42 then [nm, [58]] ++ bH ks
 else if kd = 43 then [[99, 97, 115, 101]] ++ (if nm = [] then [] else [nm, [61]]) ++ [[60, 45]] ++ bH ks
 else if kd = 44 then [[99, 97, 115, 101]] ++ bH (ks.take 1) ++ [[60, 45, 61]] ++ bH (ks.drop 1)
 else if kd = 45 then [[116, 121, 112, 101], nm, [61]] ++ bH ks ++ [[59]]
 else if kd = 46 then bH ks
 else []
theorem EJ (G : Nat -> List (List UInt8)) (ks : List Nat) : aS G ks = bH (ks.map G) := by
 unfold aS bH
 rw [List.flatMap_def]
theorem EK (G : Nat -> List (List UInt8)) (ks : List Nat) : aT G ks = dz (ks.map G) := by
 cases ks with
 | nil => rfl
 | cons k r =>
  show G k ++ _ = G k ++ _
  rw [List.flatMap_map]
theorem IV (G : Nat -> List (List UInt8)) (ks : List Nat) : gX G ks = uL (ks.map G) := by
 unfold gX uL
 rw [EJ]
 cases ks <;> simp
theorem Gu (G : Nat -> List (List UInt8)) (kd num : Int) (nm : List UInt8) (ks : List Nat) : bq G kd num nm ks = cK kd num nm (ks.map G) := by
 unfold bq cK
 simp only [EJ, EK, IV, List.map_take, List.map_drop, List.length_map]
mutual
def txT : Tr -> List (List UInt8)
 | .mk k _ n nm ks => cK k n nm (txs ks)
def txs : List Tr -> List (List (List UInt8))
 | [] => []
 | t :: r => txT t :: txs r
end
theorem uM : ∀ ks : List Tr, txs ks = ks.map txT
 | [] => rfl
 | t :: r => by rw [txs, List.map_cons, uM r]
theorem txs_app (a b : List Tr) : txs (a ++ b) = txs a ++ txs b := by simp only [uM, List.map_append]
theorem txs_len (a : List Tr) : (txs a).length = a.length := by simp only [uM, List.length_map]
mutual
theorem rA : ∀ (t : Tr) (A B : List Nd) (f : Nat), t.size <= f -> lQ (A ++ flat t A.length ++ B) f (A.length + t.size - 1) = txT t
 | .mk k p n nm ks, A, B, f, hf => by
  rw [Tr.size] at hf
  obtain ⟨g, rfl⟩ : ∃ g, f = g + 1 := ⟨f - 1, by omega⟩
  have ih := oU ks A (⟨k, p, ends ks A.length, ⟨nm.toArray⟩, n⟩ :: B) g (by omega)
  rw [← j6] at ih
  have hn := nA (.mk k p n nm ks) A B
  rw [lQ, Gu]
  unfold iV
  rw [hn]
  simp only [xB]
  rw [ih, txT]
theorem oU : ∀ (ts : List Tr) (A B : List Nd) (f : Nat), sizes ts <= f -> ((ends ts A.length).map Int.toNat).map (lQ (A ++ ag ts A.length ++ B) f) = txs ts
 | [], A, B, f, hf => rfl
 | t :: r, A, B, f, hf => by
  rw [sizes] at hf
  have i1 := rA t A (ag r (A.length + t.size) ++ B) f (by omega)
  have i2 := oU r (A ++ flat t A.length) B f (by omega)
  have el : (A ++ flat t A.length).length = A.length + t.size := by simp [ic]
  rw [el] at i2
  have e : A ++ ag (t :: r) A.length ++ B = A ++ flat t A.length ++ (ag r (A.length + t.size) ++ B) := by rw [ag]; simp [List.append_assoc]
  have e' : A ++ flat t A.length ++ ag r (A.length + t.size) ++ B = A ++ flat t A.length ++ (ag r (A.length + t.size) ++ B) := by simp [List.append_assoc]
  rw [e'] at i2
  rw [e, ends, txs, List.map_cons, List.map_cons, Int.toNat_natCast, i1, i2]
end
theorem CL (t : Tr) : gG (flat t 0) ((flat t 0).length - 1) = txT t := by
 have hp := jm t
 have h := rA t [] [] t.size (Nat.le_refl _)
 simp only [List.nil_append, List.append_nil, List.length_nil, Nat.zero_add] at h
 unfold gG
 rw [ic, show t.size - 1 + 1 = t.size by omega]
 exact h
theorem nodeL_1 (num : Int) (nm : List UInt8) (ks : List (List (List UInt8))) : cK 1 num nm ks = [[105, 110, 116]] := rfl
theorem nodeL_2 (num : Int) (nm : List UInt8) (ks : List (List (List UInt8))) : cK 2 num nm ks = [[98, 111, 111, 108]] := rfl
theorem nodeL_3 (num : Int) (nm : List UInt8) (ks : List (List (List UInt8))) : cK 3 num nm ks = [nm] := rfl
theorem nodeL_4 (num : Int) (nm : List UInt8) (ks : List (List (List UInt8))) : cK 4 num nm ks = [[97, 114, 114, 97, 121], [111, 102]] ++ bH ks := rfl
theorem nodeL_5 (num : Int) (nm : List UInt8) (ks : List (List (List UInt8))) : cK 5 num nm ks = ([[40]] ++ dz ks ++ [[41]]) := rfl
theorem nodeL_6 (num : Int) (nm : List UInt8) (ks : List (List (List UInt8))) : cK 6 num nm ks = [[99, 104, 97, 110], [111, 102]] ++ bH ks := rfl
theorem nodeL_7 (num : Int) (nm : List UInt8) (ks : List (List (List UInt8))) : cK 7 num nm ks = [[112, 114, 111, 103]] ++ ([[40]] ++ dz (ks.take (ks.length - num.toNat)) ++ [[41]]) ++ uL (ks.drop (ks.length - num.toNat)) := rfl
theorem nodeL_11 (num : Int) (nm : List UInt8) (ks : List (List (List UInt8))) : cK 11 num nm ks = [Lib.itoa num] := rfl
theorem nodeL_12 (num : Int) (nm : List UInt8) (ks : List (List (List UInt8))) : cK 12 num nm ks = [Lib.formatBool (num == 1)] := rfl
theorem nodeL_13 (num : Int) (nm : List UInt8) (ks : List (List (List UInt8))) : cK 13 num nm ks = [nm] := rfl
theorem nodeL_14 (num : Int) (nm : List UInt8) (ks : List (List (List UInt8))) : cK 14 num nm ks = ([[40]] ++ dz ks ++ [[41]]) := rfl
theorem nodeL_15 (num : Int) (nm : List UInt8) (ks : List (List (List UInt8))) : cK 15 num nm ks = ([[40]] ++ dz ks ++ [[41]]) := rfl
theorem nodeL_16 (num : Int) (nm : List UInt8) (ks : List (List (List UInt8))) : cK 16 num nm ks = ([[91]] ++ dz ks ++ [[93]]) := rfl
theorem nodeL_17 (num : Int) (nm : List UInt8) (ks : List (List (List UInt8))) : cK 17 num nm ks = [[102, 105, 108, 108]] ++ ([[40]] ++ dz ks ++ [[41]]) := rfl
theorem nodeL_18 (num : Int) (nm : List UInt8) (ks : List (List (List UInt8))) : cK 18 num nm ks = [[108, 101, 110]] ++ ([[40]] ++ dz ks ++ [[41]]) := rfl
theorem nodeL_19 (num : Int) (nm : List UInt8) (ks : List (List (List UInt8))) : cK 19 num nm ks = [[109, 97, 107, 101]] ++ bH ks := rfl
theorem nodeL_20 (num : Int) (nm : List UInt8) (ks : List (List (List UInt8))) : cK 20 num nm ks = [[112, 114, 111, 103]] ++ (if nm = [] then [] else [nm]) ++ ([[40]] ++ dz (ks.take (ks.length - 1 - num.toNat)) ++ [[41]]) ++ uL ((ks.take (ks.length - 1)).drop (ks.length - 1 - num.toNat)) ++ bH (ks.drop (ks.length - 1)) := rfl
theorem nodeL_21 (num : Int) (nm : List UInt8) (ks : List (List (List UInt8))) : cK 21 num nm ks = [opT num] ++ bH ks := rfl
theorem nodeL_22 (num : Int) (nm : List UInt8) (ks : List (List (List UInt8))) : cK 22 num nm ks = bH (ks.take 1) ++ [opT num] ++ bH (ks.drop 1) := rfl
theorem nodeL_23 (num : Int) (nm : List UInt8) (ks : List (List (List UInt8))) : cK 23 num nm ks = bH (ks.take 1) ++ ([[40]] ++ dz (ks.drop 1) ++ [[41]]) := rfl
theorem nodeL_24 (num : Int) (nm : List UInt8) (ks : List (List (List UInt8))) : cK 24 num nm ks = bH (ks.take 1) ++ ([[91]] ++ dz (ks.drop 1) ++ [[93]]) := rfl
theorem nodeL_25 (num : Int) (nm : List UInt8) (ks : List (List (List UInt8))) : cK 25 num nm ks = bH (ks.take 1) ++ [[46], Lib.itoa num] := rfl
theorem nodeL_31 (num : Int) (nm : List UInt8) (ks : List (List (List UInt8))) : cK 31 num nm ks = [[118, 97, 108], nm, [61]] ++ bH ks ++ [[59]] := rfl
theorem nodeL_32 (num : Int) (nm : List UInt8) (ks : List (List (List UInt8))) : cK 32 num nm ks = [[118, 97, 114], nm, [58]] ++ bH (ks.take 1) ++ (if ks.length <= 1 then [] else [[61]] ++ bH (ks.drop 1)) ++ [[59]] := rfl
theorem nodeL_33 (num : Int) (nm : List UInt8) (ks : List (List (List UInt8))) : cK 33 num nm ks = bH (ks.take 1) ++ [[61]] ++ bH (ks.drop 1) ++ [[59]] := rfl
theorem nodeL_34 (num : Int) (nm : List UInt8) (ks : List (List (List UInt8))) : cK 34 num nm ks = bH (ks.take 1) ++ [[60, 45, 61]] ++ bH (ks.drop 1) ++ [[59]] := rfl
theorem nodeL_35 (num : Int) (nm : List UInt8) (ks : List (List (List UInt8))) : cK 35 num nm ks = bH ks ++ [[59]] := rfl
theorem nodeL_36 (num : Int) (nm : List UInt8) (ks : List (List (List UInt8))) : cK 36 num nm ks = [[105, 102]] ++ bH (ks.take 2) ++ (if ks.length <= 2 then [] else [[101, 108, 115, 101]] ++ bH (ks.drop 2)) := rfl
theorem nodeL_37 (num : Int) (nm : List UInt8) (ks : List (List (List UInt8))) : cK 37 num nm ks = [[119, 104, 105, 108, 101]] ++ bH ks := rfl
theorem nodeL_38 (num : Int) (nm : List UInt8) (ks : List (List (List UInt8))) : cK 38 num nm ks = [[114, 101, 116, 117, 114, 110]] ++ bH ks ++ [[59]] := rfl
theorem nodeL_39 (num : Int) (nm : List UInt8) (ks : List (List (List UInt8))) : cK 39 num nm ks = [[98, 101, 103, 105, 110]] ++ bH ks ++ [[59]] := rfl
theorem nodeL_40 (num : Int) (nm : List UInt8) (ks : List (List (List UInt8))) : cK 40 num nm ks = [[115, 101, 108, 101, 99, 116], [123]] ++ bH ks ++ [[125]] := rfl
theorem nodeL_41 (num : Int) (nm : List UInt8) (ks : List (List (List UInt8))) : cK 41 num nm ks = [[123]] ++ bH ks ++ [[125]] := rfl
theorem nodeL_42 (num : Int) (nm : List UInt8) (ks : List (List (List UInt8))) : cK 42 num nm ks = [nm, [58]] ++ bH ks := rfl
theorem nodeL_43 (num : Int) (nm : List UInt8) (ks : List (List (List UInt8))) : cK 43 num nm ks = [[99, 97, 115, 101]] ++ (if nm = [] then [] else [nm, [61]]) ++ [[60, 45]] ++ bH ks := rfl
theorem nodeL_44 (num : Int) (nm : List UInt8) (ks : List (List (List UInt8))) : cK 44 num nm ks = [[99, 97, 115, 101]] ++ bH (ks.take 1) ++ [[60, 45, 61]] ++ bH (ks.drop 1) := rfl
theorem nodeL_45 (num : Int) (nm : List UInt8) (ks : List (List (List UInt8))) : cK 45 num nm ks = [[116, 121, 112, 101], nm, [61]] ++ bH ks ++ [[59]] := rfl
theorem nodeL_46 (num : Int) (nm : List UInt8) (ks : List (List (List UInt8))) : cK 46 num nm ks = bH ks := rfl
def dA (c : Nat) : List UInt8 := if c < 40 then eF.getD (c - 10) [] else bW.getD (c - 40) []
structure Gv (t : ax) : Prop where
 sign : 10 <= t.kind -> t.name = dA t.kind
 name : t.kind = 1 -> bR t.name = true
 num : t.kind = 2 -> t.name = Lib.itoa (t.num : Int)
 recv : t.name = [60, 45] -> t.kind = 65
def GT (s : List ax) : Prop := ∀ t ∈ s, Gv t
def X (s : List ax) : List (List UInt8) := s.map ax.name
theorem EL {s : List ax} (h : GT s) : GT (tl s) := fun t ht => h t (List.mem_of_mem_tail ht)
theorem KO {s : List ax} (h : kd s ≠ 0) : X s = (hd s).name :: X (tl s) := by
 cases s with
 | nil => exact absurd rfl h
 | cons a r => rfl
theorem IW {s : List ax} (h : GT s) (h0 : kd s ≠ 0) : Gv (hd s) := by
 cases s with
 | nil => exact absurd rfl h0
 | cons a r => exact h a List.mem_cons_self
def Sd (s : List ax) (P : List Tr -> List (List UInt8) -> Prop) : Res -> Prop
 | .ok ts s' => ∃ x, X s = x ++ X s' /\ GT s' /\ WTs ts /\ P ts x
 | _ => True
theorem gJ {s : List ax} {P Q : List Tr -> List (List UInt8) -> Prop} {r : Res} (h : Sd s Q r) (hp : ∀ a x, WTs a -> Q a x -> P a x) : Sd s P r := by
 cases r with
 | ok ts s' =>
  obtain ⟨x, h1, h2, h3, h4⟩ := h
  exact ⟨x, h1, h2, h3, hp _ _ h3 h4⟩
 | err s' => trivial
 | out => trivial
theorem uN {s : List ax} {P : List Tr -> List (List UInt8) -> Prop} {r : Res} (h0 : kd s ≠ 0) (h : Sd (tl s) (fun ts x => P ts ((hd s).name :: x)) r) : Sd s P r := by
 cases r with
 | ok ts s' =>
  obtain ⟨x, h1, h2, h3, h4⟩ := h
  exact ⟨(hd s).name :: x, by rw [KO h0, h1]; rfl, h2, h3, h4⟩
 | err s' => trivial
 | out => trivial
theorem gK {c : Nat} {s : List ax} {P : List Tr -> List (List UInt8) -> Prop} {r : Res} (hs : GT s) (hk : kd s = c) (hc : 10 <= c) (h : GT (tl s) -> Sd (tl s) (fun ts x => P ts (dA c :: x)) r) : Sd s P r := by
 have h0 : kd s ≠ 0 := by omega
 refine uN h0 ?_
 have e : (hd s).name = dA c := by
  rw [(IW hs h0).sign (by unfold kd at hk; omega)]
  unfold kd at hk
  rw [hk]
 rw [e]
 exact h (EL hs)
theorem aM {c : Nat} {s : List ax} {P : List Tr -> List (List UInt8) -> Prop} {k : List ax -> Res} (hs : GT s) (hc : 10 <= c) (h : GT (tl s) -> Sd (tl s) (fun ts x => P ts (dA c :: x)) (k (tl s))) : Sd s P (want c s k) := by
 unfold want
 split
 ·rename_i hk
  exact gK hs hk hc h
 ·trivial
theorem jA {s : List ax} {P : List Tr -> List (List UInt8) -> Prop} {k : List UInt8 -> List ax -> Res} (hs : GT s) (h : ∀ n, bR n = true -> GT (tl s) -> Sd (tl s) (fun ts x => P ts (n :: x)) (k n (tl s))) : Sd s P (eT s k) := by
 unfold eT
 split
 ·rename_i hk
  have h0 : kd s ≠ 0 := by omega
  exact uN h0 (h _ ((IW hs h0).name hk) (EL hs))
 ·trivial
theorem EM {s : List ax} {P : List Tr -> List (List UInt8) -> Prop} {k : Nat -> List ax -> Res} (hs : GT s) (h : ∀ n : Nat, GT (tl s) -> Sd (tl s) (fun ts x => P ts (Lib.itoa (n : Int) :: x)) (k n (tl s))) : Sd s P (iM s k) := by
 unfold iM
 split
 ·rename_i hk
  have h0 : kd s ≠ 0 := by omega
  refine uN h0 ?_
  rw [(IW hs h0).num hk]
  exact h _ (EL hs)
 ·trivial
theorem aW {s : List ax} {P Q : List Tr -> List (List UInt8) -> Prop} {r : Res} {k : List Tr -> List ax -> Res} (h : Sd s Q r) (hk : ∀ a s' y, GT s' -> WTs a -> Q a y -> Sd s' (fun ts x => P ts (y ++ x)) (k a s')) : Sd s P (aB r k) := by
 cases r with
 | ok a s' =>
  obtain ⟨y, h1, h2, h3, h4⟩ := h
  have := hk a s' y h2 h3 h4
  show Sd s P (k a s')
  cases hq : k a s' with
  | ok ts s2 =>
   rw [hq] at this
   obtain ⟨x, g1, g2, g3, g4⟩ := this
   exact ⟨y ++ x, by rw [h1, g1, List.append_assoc], g2, g3, g4⟩
  | err s2 => trivial
  | out => trivial
 | err s' => trivial
 | out => trivial
theorem bV {s : List ax} {P : List Tr -> List (List UInt8) -> Prop} {p : Prop} [Decidable p] {a b : Res} (h1 : p -> Sd s P a) (h2 : ¬ p -> Sd s P b) : Sd s P (if p then a else b) := by
 split
 ·rename_i h; exact h1 h
 ·rename_i h; exact h2 h
theorem iW {s : List ax} {P : List Tr -> List (List UInt8) -> Prop} {a : List Tr} (hs : GT s) (ha : WTs a) (hp : P a []) : Sd s P (.ok a s) := ⟨[], rfl, hs, ha, hp⟩
theorem og {t : Tr} : WTs [t] ↔ WT t := by rw [WTs, WTs, and_true]
theorem di : ∀ {a b : List Tr}, WTs a -> WTs b -> WTs (a ++ b)
 | [], b, _, h => h
 | t :: r, b, h1, h2 => by
  rw [WTs] at h1
  rw [List.cons_append, WTs]
  exact ⟨h1.1, di h1.2 h2⟩
theorem dw {s r : List ax} {P : List Tr -> List (List UInt8) -> Prop} {kind num : Int} {name : List UInt8} {kids : List Tr} (hr : GT r) (hw : WT (.mk kind (hd s).place num name kids)) (hp : P [.mk kind (hd s).place num name kids] []) : Sd r P (mk1 kind s num name kids r) := ⟨[], rfl, hr, og.2 hw, hp⟩
theorem oh {α : Type} (p : α -> Bool) : ∀ (a b : List α), (∀ t ∈ a, p t = true) -> (a ++ b).dropWhile p = b.dropWhile p
 | [], b, _ => rfl
 | t :: r, b, h => by
  rw [List.cons_append, List.dropWhile_cons, if_pos (h t List.mem_cons_self)]
  exact oh p r b (fun x hx => h x (List.mem_cons_of_mem _ hx))
theorem CO {α : Type} (p : α -> Bool) (a : List α) (h : ∀ t ∈ a, p t = true) : a.dropWhile p = [] := by
 have := oh p a [] h
 rw [List.append_nil] at this
 exact this
theorem xD {α : Type} (p : α -> Bool) : ∀ (a b : List α), (∀ t ∈ a, p t = true) -> jv p a.length (a ++ b, false) = (b, false)
 | [], b, _ => rfl
 | t :: r, b, h => by
  rw [List.length_cons, jv, List.cons_append]
  have e : aV p (t :: (r ++ b), false) = (r ++ b, false) := by simp [aV, gW, took, h t List.mem_cons_self]
  rw [e]
  exact xD p r b (fun x hx => h x (List.mem_cons_of_mem _ hx))
theorem EN (t : Tr) : 0 <= t.lv := (nP _ _).1
theorem rC (k n : Int) (h : ∀ p, eO k n p <= 0) : ∀ (ks : List Tr) (p : Nat), lvs k n p ks
 | [], p => trivial
 | t :: r, p => ⟨Int.le_trans (h p) (EN t), rC k n h r (p + 1)⟩
theorem xE (k n : Int) (h : ∀ p, eO k n (p + 1) <= 0) : ∀ (ks : List Tr) (p : Nat), lvs k n (p + 1) ks
 | [], p => trivial
 | t :: r, p => ⟨Int.le_trans (h p) (EN t), xE k n h r (p + 1)⟩
theorem oV {k : Int} (h : k ≠ 21 /\ k ≠ 22 /\ k ≠ 23 /\ k ≠ 24 /\ k ≠ 25 /\ k ≠ 43) (n : Int) (p : Nat) : eO k n p <= 0 := by
 unfold eO
 rw [if_neg (by omega), if_neg (by omega), if_neg (by omega), if_neg (by omega)]
 exact Int.le_refl _
theorem bf {k : Int} {p : Nat} {n : Int} {nm : List UInt8} {ks : List Tr} (hk : fZ k = true) (h : k ≠ 21 /\ k ≠ 22 /\ k ≠ 23 /\ k ≠ 24 /\ k ≠ 25 /\ k ≠ 43 /\ k ≠ 44) (hn : bz k n ks.length = true) (hm : nz k nm = true) (hf : aD Tr.kd k n ks = true) (hw : WTs ks) : WT (.mk k p n nm ks) := by
 rw [WT]
 exact ⟨⟨hk, hn, hm, hf, rC k n (oV ⟨h.1, h.2.1, h.2.2.1, h.2.2.2.1, h.2.2.2.2.1, h.2.2.2.2.2.1⟩ n) ks 0, fun e => absurd e h.2.2.2.2.2.2⟩, hw⟩
theorem fV (p : Int -> Bool) (t : Tr) (h : p t.kd = true) : fB (aV (p ∘ Tr.kd) ([t], false)) = true := by simp [fB, aV, gW, took, h]
theorem jB (p q : Int -> Bool) (t u : Tr) (h : p t.kd = true) (h2 : q u.kd = true) : fB (aV (q ∘ Tr.kd) (aV (p ∘ Tr.kd) ([t, u], false))) = true := by simp [fB, aV, gW, took, h, h2]
theorem CP (p q r : Int -> Bool) (t u v : Tr) (h : p t.kd = true) (h2 : q u.kd = true) (h3 : r v.kd = true) : fB (aV (r ∘ Tr.kd) (aV (q ∘ Tr.kd) (aV (p ∘ Tr.kd) ([t, u, v], false)))) = true := by simp [fB, aV, gW, took, h, h2, h3]
theorem jK (p : Int -> Bool) (a : List Tr) (h : ∀ t ∈ a, p t.kd = true) : fB (dn (p ∘ Tr.kd) (a, false)) = true := by
 unfold dn
 rw [CO (p ∘ Tr.kd) a h]
 rfl
theorem rD (p q : Int -> Bool) (t : Tr) (a : List Tr) (ht : q t.kd = true) (h : ∀ t ∈ a, p t.kd = true) : fB (dn (p ∘ Tr.kd) (aV (q ∘ Tr.kd) (t :: a, false))) = true := by
 rw [show aV (q ∘ Tr.kd) (t :: a, false) = (a, false) by simp [aV, gW, took, ht]]
 exact jK p a h
theorem tJ (p q : Int -> Bool) (t u : Tr) (a : List Tr) (ht : q t.kd = true) (hu : q u.kd = true) (h : ∀ t ∈ a, p t.kd = true) : fB (dn (p ∘ Tr.kd) (aV (q ∘ Tr.kd) (aV (q ∘ Tr.kd) (t :: u :: a, false)))) = true := by
 rw [show aV (q ∘ Tr.kd) (t :: u :: a, false) = (u :: a, false) by simp [aV, gW, took, ht]]
 exact rD p q u a hu h
theorem txtK_10 : dA 10 = [97, 114, 114, 97, 121] := rfl
theorem txtK_11 : dA 11 = [98, 101, 103, 105, 110] := rfl
theorem txtK_12 : dA 12 = [98, 111, 111, 108] := rfl
theorem txtK_13 : dA 13 = [99, 97, 115, 101] := rfl
theorem txtK_14 : dA 14 = [99, 104, 97, 110] := rfl
theorem txtK_15 : dA 15 = [101, 108, 115, 101] := rfl
theorem txtK_16 : dA 16 = [102, 97, 108, 115, 101] := rfl
theorem txtK_17 : dA 17 = [102, 105, 108, 108] := rfl
theorem txtK_18 : dA 18 = [105, 102] := rfl
theorem txtK_19 : dA 19 = [105, 110, 116] := rfl
theorem txtK_20 : dA 20 = [108, 101, 110] := rfl
theorem txtK_21 : dA 21 = [109, 97, 107, 101] := rfl
theorem txtK_22 : dA 22 = [111, 102] := rfl
theorem txtK_23 : dA 23 = [112, 114, 111, 103] := rfl
theorem txtK_24 : dA 24 = [114, 101, 116, 117, 114, 110] := rfl
theorem txtK_25 : dA 25 = [115, 101, 108, 101, 99, 116] := rfl
theorem txtK_26 : dA 26 = [116, 114, 117, 101] := rfl
theorem txtK_27 : dA 27 = [116, 121, 112, 101] := rfl
theorem txtK_28 : dA 28 = [118, 97, 108] := rfl
theorem txtK_29 : dA 29 = [118, 97, 114] := rfl
theorem txtK_30 : dA 30 = [119, 104, 105, 108, 101] := rfl
theorem txtK_40 : dA 40 = [40] := rfl
theorem txtK_41 : dA 41 = [41] := rfl
theorem txtK_42 : dA 42 = [91] := rfl
theorem txtK_43 : dA 43 = [93] := rfl
theorem txtK_44 : dA 44 = [123] := rfl
theorem txtK_45 : dA 45 = [125] := rfl
theorem txtK_46 : dA 46 = [44] := rfl
theorem txtK_47 : dA 47 = [59] := rfl
theorem txtK_48 : dA 48 = [58] := rfl
theorem txtK_49 : dA 49 = [46] := rfl
theorem txtK_50 : dA 50 = [61] := rfl
theorem txtK_51 : dA 51 = [61, 61] := rfl
theorem txtK_52 : dA 52 = [33, 61] := rfl
theorem txtK_53 : dA 53 = [60] := rfl
theorem txtK_54 : dA 54 = [60, 61] := rfl
theorem txtK_55 : dA 55 = [62] := rfl
theorem txtK_56 : dA 56 = [62, 61] := rfl
theorem txtK_57 : dA 57 = [43] := rfl
theorem txtK_58 : dA 58 = [45] := rfl
theorem txtK_59 : dA 59 = [42] := rfl
theorem txtK_60 : dA 60 = [47] := rfl
theorem txtK_61 : dA 61 = [37] := rfl
theorem txtK_62 : dA 62 = [38, 38] := rfl
theorem txtK_63 : dA 63 = [124, 124] := rfl
theorem txtK_64 : dA 64 = [33] := rfl
theorem txtK_65 : dA 65 = [60, 45] := rfl
theorem txtK_66 : dA 66 = [60, 45, 61] := rfl
theorem kV (a b : List (List UInt8)) (r : List (List (List UInt8))) : dz (a :: b :: r) = a ++ ([44] :: dz (b :: r)) := by simp [dz]
theorem innerL_one (a : List (List UInt8)) : dz [a] = a := by simp [dz]
theorem rowL_cons (a : List (List UInt8)) (r : List (List (List UInt8))) : bH (a :: r) = a ++ bH r := by simp [bH]
theorem rowL_nil : bH [] = [] := rfl
theorem rowL_app (a b : List (List (List UInt8))) : bH (a ++ b) = bH a ++ bH b := by simp [bH]
theorem resL_nil : uL [] = [] := rfl
theorem resL_one (a : List (List UInt8)) : uL [a] = [58] :: a := by simp [uL, bH]
theorem txs_nil : txs [] = [] := by rw [txs]
theorem txs_cons (t : Tr) (r : List Tr) : txs (t :: r) = txT t :: txs r := by rw [txs]
theorem txT_mk (k : Int) (p : Nat) (n : Int) (nm : List UInt8) (ks : List Tr) : txT (.mk k p n nm ks) = cK k n nm (txs ks) := by rw [txT]
theorem Bq {n : List UInt8} (h : bR n = true) : n ≠ [] := by
 intro e
 subst e
 exact absurd h (by decide)
def nC (p : Tr -> Prop) (ts : List Tr) (x : List (List UInt8)) : Prop := ∃ t, ts = [t] /\ p t /\ x = txT t
def exL (l : Int) (t : Tr) : Prop := aL t.kd = true /\ l <= t.lv
def IX : One -> Tr -> Prop
 | .typ, t => dZ t.kd = true
 | .expr, t => aL t.kd = true
 | .param, t => t.kd = 42
def Pr : Rl -> List Tr -> List (List UInt8) -> Prop
 | .typ, ts, x => nC (fun t => dZ t.kd = true) ts x
 | .chanT, ts, x => nC (fun t => t.kd = 6) ts x
 | .parted o, ts, x => ts ≠ [] /\ (∀ t ∈ ts, IX o t) /\ x = dz (txs ts)
 | .listed o, ts, x => (∀ t ∈ ts, IX o t) /\ x = [40] :: (dz (txs ts) ++ [[41]])
 | .result, ts, x => (ts = [] /\ x = []) ∨ ∃ t, ts = [t] /\ dZ t.kd = true /\ x = [58] :: txT t
 | .operands l, ts, x => nC (exL l) ts x
 | .ops least left _, ts, x => ∃ t, ts = [t] /\ exL least t /\ bH (txs left) ++ x = txT t
 | .unary, ts, x => nC (exL 6) ts x
 | .postf, ts, x => nC (exL 7) ts x
 | .post kid, ts, x => ∃ t, ts = [t] /\ exL 7 t /\ bH (txs kid) ++ x = txT t
 | .primary, ts, x => nC (exL 7) ts x
 | .prog, ts, x => nC (fun t => t.kd = 20 /\ 7 <= t.lv) ts x
 | .param, ts, x => nC (fun t => t.kd = 42) ts x
 | .block, ts, x => nC (fun t => t.kd = 41) ts x
 | .stmts, ts, x => (∀ t ∈ ts, gM t.kd = true) /\ x = bH (txs ts) ++ [[125]]
 | .stmt, ts, x => nC (fun t => gM t.kd = true) ts x
 | .branch, ts, x => nC (fun t => t.kd = 36) ts x
 | .arms, ts, x => (∀ t ∈ ts, pK t.kd = true) /\ x = bH (txs ts) ++ [[125]]
 | .arm, ts, x => nC (fun t => pK t.kd = true) ts x
 | .tyn, ts, x => nC (fun t => t.kd = 45) ts x
 | .types, ts, x => (∀ t ∈ ts, t.kd = 45) /\ x = bH (txs ts)
 | .tops, ts, x => (∀ t ∈ ts, gM t.kd = true) /\ x = bH (txs ts)
 | .program, ts, x => nC (fun t => t.kd = 46) ts x
def WrS : Rl -> Prop
 | .operands n => 1 <= n /\ n <= 6
 | .ops least left most => 1 <= least /\ ∃ l, left = [l] /\ WT l /\ exL least l /\ most <= l.lv /\ (l.lv = 3 -> most <= 2)
 | .post kid => ∃ l, kid = [l] /\ WT l /\ exL 7 l
 | _ => True
theorem IY (o : One) : WrS (.of o) := by cases o <;> simp [Rl.of, WrS]
theorem IZ {o : One} {a : List Tr} {y : List (List UInt8)} (h : Pr (.of o) a y) : ∃ t, a = [t] /\ IX o t /\ y = txT t := by
 cases o with
 | typ => exact h
 | expr =>
  obtain ⟨t, h1, h2, h3⟩ := h
  exact ⟨t, h1, h2.1, h3⟩
 | param => exact h
theorem CQ (c : Nat) (h : 1 <= aX (gz c)) : 10 <= c /\ dA c = opT (gz c) := by
 by_cases h0 : c = 63
 ·subst h0; exact ⟨by decide, rfl⟩
 by_cases h1 : c = 62
 ·subst h1; exact ⟨by decide, rfl⟩
 by_cases h2 : c = 51
 ·subst h2; exact ⟨by decide, rfl⟩
 by_cases h3 : c = 52
 ·subst h3; exact ⟨by decide, rfl⟩
 by_cases h4 : c = 53
 ·subst h4; exact ⟨by decide, rfl⟩
 by_cases h5 : c = 54
 ·subst h5; exact ⟨by decide, rfl⟩
 by_cases h6 : c = 55
 ·subst h6; exact ⟨by decide, rfl⟩
 by_cases h7 : c = 56
 ·subst h7; exact ⟨by decide, rfl⟩
 by_cases h8 : c = 57
 ·subst h8; exact ⟨by decide, rfl⟩
 by_cases h9 : c = 58
 ·subst h9; exact ⟨by decide, rfl⟩
 by_cases h10 : c = 59
 ·subst h10; exact ⟨by decide, rfl⟩
 by_cases h11 : c = 60
 ·subst h11; exact ⟨by decide, rfl⟩
 by_cases h12 : c = 61
 ·subst h12; exact ⟨by decide, rfl⟩
 unfold gz at h
 rw [if_neg h0, if_neg h1, if_neg h2, if_neg h3, if_neg h4, if_neg h5, if_neg h6, if_neg h7, if_neg h8, if_neg h9, if_neg h10, if_neg h11, if_neg h12] at h
 exact absurd h (by decide)
theorem xF : ∀ (n : Nat) (t : Tr), t.size <= n -> WT t -> CG t = true -> ∃ r, txT t = [60, 45] :: r
 | 0, t, h, _, _ => absurd (jm t) (by omega)
 | n + 1, .mk k p m nm ks, h, hw, hb => by
  rw [Tr.size] at h
  rw [WT] at hw
  rw [CG] at hb
  split at hb
  ·rename_i hk
   have hne := rz hw.1.2.2.2.1 (Or.inl hk)
   match ks, hne, hw, hb, h with
   | t :: r, hne, hw, hb, h =>
    rw [zZ] at hb
    rw [sizes] at h
    rw [WTs] at hw
    obtain ⟨q, hq⟩ := xF n t (by omega) hw.2.1 hb
    rw [txT_mk, txs_cons, hq]
    have hc : k = 22 ∨ k = 23 ∨ k = 24 ∨ k = 25 := by omega
    rcases hc with rfl | rfl | rfl | rfl
    ·rw [nodeL_22]; exact ⟨_, by simp [bH]; rfl⟩
    ·rw [nodeL_23]; exact ⟨_, by simp [bH]; rfl⟩
    ·rw [nodeL_24]; exact ⟨_, by simp [bH]; rfl⟩
    ·rw [nodeL_25]; exact ⟨_, by simp [bH]; rfl⟩
  ·simp only [Bool.and_eq_true, beq_iff_eq] at hb
   obtain ⟨rfl, rfl⟩ := hb
   exact ⟨_, by rw [txT_mk, nodeL_21]; rfl⟩
attribute [local simp] txT_mk txs_nil txs_cons txs_app txs_len rowL_cons rowL_nil rowL_app innerL_one resL_nil resL_one nodeL_1 nodeL_2 nodeL_3 nodeL_4 nodeL_5 nodeL_6 nodeL_7 nodeL_11 nodeL_12 nodeL_13 nodeL_14 nodeL_15 nodeL_16 nodeL_17 nodeL_18 nodeL_19 nodeL_20 nodeL_21 nodeL_22 nodeL_23 nodeL_24 nodeL_25 nodeL_31 nodeL_32 nodeL_33 nodeL_34 nodeL_35 nodeL_36 nodeL_37 nodeL_38 nodeL_39 nodeL_40 nodeL_41 nodeL_42 nodeL_43 nodeL_44 nodeL_45 nodeL_46 txtK_10 txtK_11 txtK_12 txtK_13 txtK_14 txtK_15 txtK_16 txtK_17 txtK_18 txtK_19 txtK_20 txtK_21 txtK_22 txtK_23 txtK_24 txtK_25 txtK_26 txtK_27 txtK_28 txtK_29 txtK_30 txtK_40 txtK_41 txtK_42 txtK_43 txtK_44 txtK_45 txtK_46 txtK_47 txtK_48 txtK_49 txtK_50 txtK_51 txtK_52 txtK_53 txtK_54 txtK_55 txtK_56 txtK_57 txtK_58 txtK_59 txtK_60 txtK_61 txtK_62 txtK_63 txtK_64 txtK_65 txtK_66
def HH (g : Rl -> List ax -> Res) : Prop := ∀ r s, WrS r -> GT s -> Sd s (Pr r) (g r s)
theorem fM {k n : Int} {ks : List Tr} {x : List Tr × Bool} (e : aF Tr.kd k n (ks, false) = x) (h : fB x = true) : aD Tr.kd k n ks = true := by
 unfold aD
 rw [e]
 exact h
theorem jo {n : List UInt8} (h : bR n = true) {k : Int} (hk : k = 3 ∨ k = 13 ∨ k = 31 ∨ k = 32 ∨ k = 42 ∨ k = 45) : nz k n = true := by
 unfold nz
 rw [if_neg (by omega), if_pos hk]
 exact h
theorem tK {n : List UInt8} (h : n = [] ∨ bR n = true) {k : Int} (hk : k = 20 ∨ k = 43) : nz k n = true := by
 unfold nz
 rw [if_pos hk]
 rcases h with rfl | h
 ·rfl
 ·rw [h, Bool.or_true]
theorem I1 {g : Rl -> List ax -> Res} (H : HH g) (s : List ax) (hs : GT s) : Sd s (Pr .typ) (body g .typ s) := by
 unfold body
 refine bV (fun h => ?_) (fun _ => bV (fun h => ?_) (fun _ => bV (fun h => ?_) (fun _ => bV (fun h => ?_) (fun _ => bV (fun h => ?_) (fun _ => bV (fun h => ?_) (fun _ => ?_))))))
 ·exact gK hs h (by decide) (fun g1 => dw g1 (bf rfl (by decide) rfl rfl rfl trivial) ⟨_, rfl, rfl, by simp⟩)
 ·exact gK hs h (by decide) (fun g1 => dw g1 (bf rfl (by decide) rfl rfl rfl trivial) ⟨_, rfl, rfl, by simp⟩)
 ·refine aM hs (by decide) (fun g1 => aM g1 (by decide) (fun g2 => aW (H .typ _ trivial g2) (fun a s3 y g3 wa q => ?_)))
  obtain ⟨t, rfl, ht, rfl⟩ := q
  exact dw g3 (bf rfl (by decide) rfl rfl (fM (sM ..) (fV dZ t ht)) wa) ⟨_, rfl, rfl, by simp⟩
 ·refine gJ (H .chanT _ trivial hs) (fun a x wa q => ?_)
  obtain ⟨t, rfl, ht, rfl⟩ := q
  exact ⟨t, rfl, by simp only [ht]; rfl, rfl⟩
 ·refine aM hs (by decide) (fun g1 => aW (H .typ _ trivial g1) (fun a s3 y g3 wa q => aM g3 (by decide) (fun g4 => aW (H (.parted .typ) _ trivial g4) (fun b s5 z g5 wb q5 => aM g5 (by decide) (fun g6 => ?_)))))
  obtain ⟨t, rfl, ht, rfl⟩ := q
  obtain ⟨hne, hb, rfl⟩ := q5
  match b, hne, hb, wb with
  | u :: b, hne, hb, wb =>
   exact dw g6 (bf rfl (by decide) rfl rfl (fM (sN ..) (tJ dZ dZ t u b ht (hb u List.mem_cons_self) (fun x hx => hb x (List.mem_cons_of_mem _ hx)))) (di wa wb)) ⟨_, rfl, rfl, by simp [kV]⟩
 ·refine aM hs (by decide) (fun g1 => aW (H (.listed .typ) _ trivial g1) (fun a s3 y g3 wa q => aW (H .result _ trivial g3) (fun b s5 z g5 wb q5 => ?_)))
  obtain ⟨ha, rfl⟩ := q
  rcases q5 with ⟨rfl, rfl⟩ | ⟨t, rfl, ht, rfl⟩
  ·refine dw g5 (bf rfl (by decide) rfl rfl (fM (nV ..) (jK dZ _ (fun x hx => ha x (by simpa using hx)))) (di wa wb)) ⟨_, rfl, rfl, by simp [List.take_of_length_le, List.drop_of_length_le]⟩
  ·refine dw g5 (bf rfl (by decide) (by simp [bz]) rfl (fM (nV ..) (jK dZ _ (fun x hx => ?_))) (di wa wb)) ⟨_, rfl, rfl, by simp⟩
   rcases List.mem_append.1 hx with hx | hx
   ·exact ha x hx
   ·rw [List.mem_singleton.1 hx]; exact ht
 ·exact jA hs (fun n hn g1 => dw g1 (bf rfl (by decide) rfl (jo hn (by decide)) rfl trivial) ⟨_, rfl, rfl, by simp⟩)
theorem Gw {g : Rl -> List ax -> Res} (H : HH g) (s : List ax) (hs : GT s) : Sd s (Pr .chanT) (body g .chanT s) := by
 unfold body
 refine aM hs (by decide) (fun g1 => aM g1 (by decide) (fun g2 => aW (H .typ _ trivial g2) (fun a s3 y g3 wa q => ?_)))
 obtain ⟨t, rfl, ht, rfl⟩ := q
 exact dw g3 (bf rfl (by decide) rfl rfl (fM (sO ..) (fV dZ t ht)) wa) ⟨_, rfl, rfl, by simp⟩
theorem CR {g : Rl -> List ax -> Res} (H : HH g) (o : One) (s : List ax) (hs : GT s) : Sd s (Pr (.parted o)) (body g (.parted o) s) := by
 unfold body
 refine aW (H (.of o) _ (IY o) hs) (fun a s1 y g1 wa q => ?_)
 obtain ⟨t, rfl, ht, rfl⟩ := IZ q
 refine bV (fun h => gK g1 h (by decide) (fun g2 => aW (H (.parted o) _ trivial g2) (fun b s3 z g3 wb q3 => ?_))) (fun _ => ?_)
 ·obtain ⟨hne, hb, rfl⟩ := q3
  match b, hne, hb, wb with
  | u :: b, hne, hb, wb =>
   refine iW g3 (di wa wb) ⟨by simp, fun x hx => ?_, by simp [kV]⟩
   rcases List.mem_append.1 hx with hx | hx
   ·rw [List.mem_singleton.1 hx]; exact ht
   ·exact hb x hx
 ·refine iW g1 wa ⟨by simp, fun x hx => ?_, by simp⟩
  rw [List.mem_singleton.1 hx]; exact ht
theorem CS {g : Rl -> List ax -> Res} (H : HH g) (o : One) (s : List ax) (hs : GT s) : Sd s (Pr (.listed o)) (body g (.listed o) s) := by
 unfold body
 refine aM hs (by decide) (fun g1 => bV (fun h => gK g1 h (by decide) (fun g2 => ?_)) (fun _ => aW (H (.parted o) _ trivial g1) (fun a s3 y g3 wa q => aM g3 (by decide) (fun g4 => ?_))))
 ·exact iW g2 trivial ⟨by simp, by simp [dz]⟩
 ·obtain ⟨hne, ha, rfl⟩ := q
  exact iW g4 wa ⟨ha, by simp⟩
theorem CU {g : Rl -> List ax -> Res} (H : HH g) (s : List ax) (hs : GT s) : Sd s (Pr .result) (body g .result s) := by
 unfold body
 refine bV (fun h => gK hs h (by decide) (fun g1 => gJ (H .typ _ trivial g1) (fun a x wa q => ?_))) (fun _ => iW hs trivial (Or.inl ⟨rfl, rfl⟩))
 obtain ⟨t, rfl, ht, rfl⟩ := q
 exact Or.inr ⟨t, rfl, ht, by simp⟩
theorem xG {g : Rl -> List ax -> Res} (H : HH g) (n : Int) (hn : 1 <= n /\ n <= 6) (s : List ax) (hs : GT s) : Sd s (Pr (.operands n)) (body g (.operands n) s) := by
 unfold body
 refine aW (H .unary _ trivial hs) (fun a s1 y g1 wa q => ?_)
 obtain ⟨t, rfl, ht, rfl⟩ := q
 have h6 := ht.2
 refine gJ (H (.ops n [t] 5) _ ⟨hn.1, t, rfl, og.1 wa, ⟨ht.1, by omega⟩, by omega, by omega⟩ g1) (fun a x wa q => ?_)
 obtain ⟨u, rfl, hu, e⟩ := q
 exact ⟨u, rfl, hu, by rw [← e]; simp⟩
theorem I6 {p : Nat} {op : Int} {l r : Tr} (h1 : 1 <= aX op) (wl : WT l) (wr : WT r) (el : aL l.kd = true) (er : aL r.kd = true) (hl : aX op <= l.lv) (h3 : l.lv = 3 -> aX op <= 2) (hr : aX op + 1 <= r.lv) : WT (.mk 22 p op [] [l, r]) := by
 rw [WT, WTs, WTs, WTs]
 have e : dL 22 op = aX op := rfl
 refine ⟨⟨rfl, ?_, rfl, fM (jS ..) (jB aL aL l r el er), ⟨?_, ?_, trivial⟩, fun e => absurd e (by decide)⟩, wl, wr, trivial⟩
 ·unfold bz
  rw [if_neg (by decide), if_neg (by decide), if_neg (by decide), if_pos (by decide), e]
  simp only [bne_iff_ne]
  omega
 ·unfold eO
  rw [if_pos rfl, e]
  split
  ·exact hl
  ·rename_i h
   have : aX op = 3 := by
    by_cases h4 : aX op = 3
    ·exact h4
    ·exact absurd ⟨rfl, h4⟩ h
   omega
 ·unfold eO
  rw [if_pos rfl, e, if_neg (by simp)]
  exact hr
theorem I7 {g : Rl -> List ax -> Res} (H : HH g) (least : Int) (left : List Tr) (most : Int) (hr : WrS (.ops least left most)) (s : List ax) (hs : GT s) : Sd s (Pr (.ops least left most)) (body g (.ops least left most) s) := by
 obtain ⟨h1, l, rfl, wl, hl, hm, h3⟩ := hr
 unfold body
 refine bV (fun h => iW hs (og.2 wl) ⟨l, rfl, hl, by simp⟩) (fun h => ?_)
 have hL : 1 <= aX (gz (kd s)) := by omega
 have hU := mK (gz (kd s))
 obtain ⟨h10, hop⟩ := CQ _ hL
 refine gK hs rfl h10 (fun g1 => aW (H (.operands _) _ ⟨by omega, by omega⟩ g1) (fun b s2 y g2 wb q => ?_))
 obtain ⟨r, rfl, hr, rfl⟩ := q
 have hr2 := hr.2
 have hw : WT (.mk 22 (hd s).place (gz (kd s)) [] [l, r]) := I6 hL wl (og.1 wb) hl.1 hr.1 (by omega) (fun e => by have := h3 e; omega) hr2
 have hlv : (Tr.mk 22 (hd s).place (gz (kd s)) [] [l, r]).lv = aX (gz (kd s)) := rfl
 refine gJ (H (.ops least [.mk 22 (hd s).place (gz (kd s)) [] [l, r]] _) _ ⟨h1, _, rfl, hw, ⟨rfl, by rw [hlv]; omega⟩, ?_, ?_⟩ g2) (fun a x wa q => ?_)
 ·rw [hlv]; split <;> omega
 ·rw [hlv]; intro e; rw [if_pos e]; exact Int.le_refl _
 ·obtain ⟨u, rfl, hu, e⟩ := q
  refine ⟨u, rfl, hu, ?_⟩
  rw [← e]
  simp [hop]
theorem EO {g : Rl -> List ax -> Res} (H : HH g) (s : List ax) (hs : GT s) : Sd s (Pr .unary) (body g .unary s) := by
 unfold body
 have key : ∀ (c : Nat) (n : Int), 10 <= c -> 1 <= n /\ n <= 3 -> dA c = opT n -> kd s = c -> Sd s (Pr .unary) (aB (g .unary (tl s)) fun a s1 => mk1 21 s n [] a s1) := by
  intro c n hc hn ho hk
  refine gK hs hk hc (fun g1 => aW (H .unary _ trivial g1) (fun a s1 y g2 wa q => ?_))
  obtain ⟨t, rfl, ht, rfl⟩ := q
  have e : dL 21 n = 6 := by unfold dL; rw [if_neg (by decide), if_pos rfl, if_pos hn]
  refine dw g2 ?_ ⟨_, rfl, ⟨rfl, ?_⟩, by simp [ho]⟩
  ·rw [WT]
   refine ⟨⟨rfl, ?_, rfl, fM (qp ..) (fV aL t ht.1), ⟨ht.2, trivial⟩, fun e => absurd e (by decide)⟩, wa⟩
   unfold bz
   rw [if_neg (by decide), if_neg (by decide), if_neg (by decide), if_pos (by decide), e]
   rfl
  ·show 6 <= dL 21 n
   rw [e]; exact Int.le_refl _
 refine bV (fun h => key 58 1 (by decide) (by decide) rfl h) (fun _ => bV (fun h => key 64 2 (by decide) (by decide) rfl h) (fun _ => bV (fun h => key 65 3 (by decide) (by decide) rfl h) (fun _ => ?_)))
 refine gJ (H .postf _ trivial hs) (fun a x wa q => ?_)
 obtain ⟨t, rfl, ht, rfl⟩ := q
 have := ht.2
 exact ⟨t, rfl, ⟨ht.1, by omega⟩, rfl⟩
theorem Aa {g : Rl -> List ax -> Res} (H : HH g) (s : List ax) (hs : GT s) : Sd s (Pr .postf) (body g .postf s) := by
 unfold body
 refine aW (H .primary _ trivial hs) (fun a s1 y g1 wa q => ?_)
 obtain ⟨t, rfl, ht, rfl⟩ := q
 refine gJ (H (.post [t]) _ ⟨t, rfl, og.1 wa, ht⟩ g1) (fun a x wa q => ?_)
 obtain ⟨u, rfl, hu, e⟩ := q
 exact ⟨u, rfl, hu, by rw [← e]; simp⟩
theorem uO {k : Int} {p : Nat} {n : Int} {l : Tr} {b : List Tr} (hk : k = 23 ∨ k = 24 ∨ k = 25) (hn : bz k n (l :: b).length = true) (hf : aD Tr.kd k n (l :: b) = true) (hl : 7 <= l.lv) (wl : WT l) (wb : WTs b) : WT (.mk k p n [] (l :: b)) := by
 rw [WT]
 have hw : ∀ q, eO k n (q + 1) <= 0 := fun q => by
  unfold eO
  rw [if_neg (by omega), if_neg (by omega), if_pos (by omega), if_neg (by omega)]
  exact Int.le_refl _
 have h0 : eO k n 0 = 7 := by
  unfold eO
  rw [if_neg (by omega), if_neg (by omega), if_pos (by omega), if_pos rfl]
 refine ⟨⟨by rcases hk with rfl | rfl | rfl <;> rfl, hn, by rcases hk with rfl | rfl | rfl <;> rfl, hf, ⟨by rw [h0]; exact hl, xE k n hw b 0⟩, by omega⟩, ?_⟩
 rw [WTs]
 exact ⟨wl, wb⟩
theorem Gx {g : Rl -> List ax -> Res} (H : HH g) (kid : List Tr) (hr : WrS (.post kid)) (s : List ax) (hs : GT s) : Sd s (Pr (.post kid)) (body g (.post kid) s) := by
 obtain ⟨l, rfl, wl, hl⟩ := hr
 unfold body
 refine bV (fun h => ?_) (fun _ => bV (fun h => ?_) (fun _ => bV (fun h => ?_) (fun _ => iW hs (og.2 wl) ⟨l, rfl, hl, by simp⟩)))
 ·refine aW (H (.listed .expr) _ trivial hs) (fun b s1 y g1 wb q => ?_)
  obtain ⟨hb, rfl⟩ := q
  refine gJ (H (.post [.mk 23 (hd s).place 0 [] (l :: b)]) _ ⟨_, rfl, uO (Or.inl rfl) rfl (fM (jT ..) (rD aL aL l b hl.1 hb)) hl.2 wl wb, ⟨rfl, Int.le_refl _⟩⟩ g1) (fun a x wa q => ?_)
  obtain ⟨u, rfl, hu, e⟩ := q
  exact ⟨u, rfl, hu, by rw [← e]; simp⟩
 ·refine aM hs (by decide) (fun g1 => aW (H (.operands 1) _ ⟨by decide, by decide⟩ g1) (fun b s1 y g2 wb q => aM g2 (by decide) (fun g3 => ?_)))
  obtain ⟨t, rfl, ht, rfl⟩ := q
  refine gJ (H (.post [.mk 24 (hd s).place 0 [] [l, t]]) _ ⟨_, rfl, uO (Or.inr (Or.inl rfl)) rfl (fM (jU ..) (jB aL aL l t hl.1 ht.1)) hl.2 wl wb, ⟨rfl, Int.le_refl _⟩⟩ g3) (fun a x wa q => ?_)
  obtain ⟨u, rfl, hu, e⟩ := q
  exact ⟨u, rfl, hu, by rw [← e]; simp⟩
 ·refine aM hs (by decide) (fun g1 => EM g1 (fun n g2 => ?_))
  refine gJ (H (.post [.mk 25 (hd s).place n [] [l]]) _ ⟨_, rfl, uO (Or.inr (Or.inr rfl)) (by simp [bz]) (fM (jV ..) (fV aL l hl.1)) hl.2 wl trivial, ⟨rfl, Int.le_refl _⟩⟩ g2) (fun a x wa q => ?_)
  obtain ⟨u, rfl, hu, e⟩ := q
  exact ⟨u, rfl, hu, by rw [← e]; simp⟩
end Go.Proofs.YtecodpdfckjalaaGreatDoor
