import Derived.Test.YtecodpdfckjalaaGreatDoorChecked
import Derived.WalkKit
import Derived.WalkSpells
import Derived.WalkLawsBesides
set_option linter.unusedVariables false
set_option linter.unusedSimpArgs false
set_option maxHeartbeats 4000000
set_option maxRecDepth 100000
namespace Go.Proofs.YtecodpdfckjalaaGreatDoor
structure Nd where
 kind : Int
 pos : Int
 kids : List Int
 name : ByteArray
 num : Int
def nd0 : Nd := ⟨0, 0, [], ⟨#[]⟩, 0⟩
def dZ (k : Int) : Bool := decide (1 <= k) && decide (k <= 7)
def aL (k : Int) : Bool := decide (11 <= k) && decide (k <= 25)
def gM (k : Int) : Bool := decide (31 <= k) && decide (k <= 41)
def fZ (k : Int) : Bool := dZ k || aL k || gM k || (decide (42 <= k) && decide (k <= 46))
def pK (k : Int) : Bool := k == 43 || k == 44
def kF (k : Int) : Bool := k == 41 || k == 36
def cu (a k : Int) : Bool := k == a
def aX (op : Int) : Int :=
 if op = 11 then 1 else if op = 12 then 2 else if 21 <= op /\ op <= 26 then 3 else if op = 31 ∨ op = 32 then 4 else if 41 <= op /\ op <= 43 then 5 else 0
def dL (kind num : Int) : Int :=
 if kind = 22 then aX num else if kind = 21 then (if 1 <= num /\ num <= 3 then 6 else 0) else if 23 <= kind /\ kind <= 25 then 7 else if aL kind then 8 else 0
theorem mK (op : Int) : 0 <= aX op /\ aX op <= 5 := by
 unfold aX
 repeat' split
 all_goals omega
theorem nP (k n : Int) : 0 <= dL k n /\ dL k n <= 8 := by
 have := mK n
 unfold dL
 repeat' split
 all_goals omega
def gW {α : Type} (p : α -> Bool) : List α -> List α
 | [] => []
 | k :: r => if p k then r else k :: r
def took {α : Type} (p : α -> Bool) : List α -> Bool
 | [] => false
 | k :: _ => p k
def ik {α : Type} (p : α -> Bool) (s : List α × Bool) : List α × Bool := (gW p s.1, s.2)
def aV {α : Type} (p : α -> Bool) (s : List α × Bool) : List α × Bool := (gW p s.1, s.2 || !took p s.1)
def dn {α : Type} (p : α -> Bool) (s : List α × Bool) : List α × Bool := (s.1.dropWhile p, s.2)
def jv {α : Type} (p : α -> Bool) : Nat -> List α × Bool -> List α × Bool
 | 0, s => s
 | n + 1, s => jv p n (aV p s)
theorem pM {α : Type} (p : α -> Bool) : ∀ (n : Nat) (s : List α × Bool), jv p (n + 1) s = aV p (jv p n s)
 | 0, s => rfl
 | n + 1, s => by rw [jv, pM p n, ← jv]
def aF {α : Type} (f : α -> Int) (kind num : Int) (s : List α × Bool) : List α × Bool :=
 if kind = 5 then dn (dZ ∘ f) (aV (dZ ∘ f) (aV (dZ ∘ f) s))
 else if kind = 7 then dn (dZ ∘ f) s
 else if kind = 4 ∨ kind = 6 ∨ kind = 42 ∨ kind = 45 then aV (dZ ∘ f) s
 else if kind = 15 then dn (aL ∘ f) (aV (aL ∘ f) (aV (aL ∘ f) s))
 else if kind = 16 ∨ kind = 23 then dn (aL ∘ f) (aV (aL ∘ f) s)
 else if kind = 17 ∨ kind = 22 ∨ kind = 24 ∨ kind = 33 ∨ kind = 34 then aV (aL ∘ f) (aV (aL ∘ f) s)
 else if kind = 14 ∨ kind = 18 ∨ kind = 21 ∨ kind = 25 ∨ kind = 31 ∨ kind = 35 ∨ kind = 39 then aV (aL ∘ f) s
 else if kind = 19 then aV (cu 6 ∘ f) s
 else if kind = 20 then aV (cu 41 ∘ f) (if num = 1 then aV (dZ ∘ f) (dn (cu 42 ∘ f) s) else dn (cu 42 ∘ f) s)
 else if kind = 32 then ik (aL ∘ f) (aV (dZ ∘ f) s)
 else if kind = 38 then ik (aL ∘ f) s
 else if kind = 44 then aV (cu 41 ∘ f) (aV (aL ∘ f) (aV (aL ∘ f) s))
 else if kind = 37 ∨ kind = 43 then aV (cu 41 ∘ f) (aV (aL ∘ f) s)
 else if kind = 36 then ik (kF ∘ f) (aV (cu 41 ∘ f) (aV (aL ∘ f) s))
 else if kind = 40 then dn (pK ∘ f) s
 else if kind = 46 then dn (gM ∘ f) (jv (cu 45 ∘ f) num.toNat s)
 else if kind = 41 then dn (gM ∘ f) s
 else s
def fB {α : Type} (s : List α × Bool) : Bool := !s.2 && s.1.length == 0
def aD {α : Type} (f : α -> Int) (kind num : Int) (ks : List α) : Bool := fB (aF f kind num (ks, false))
def bz (kind num : Int) (n : Nat) : Bool :=
 if kind = 7 then num == 0 || (num == 1 && decide (0 < n))
 else if kind = 12 ∨ kind = 20 then num == 0 || num == 1
 else if kind = 11 ∨ kind = 25 then decide (0 <= num)
 else if kind = 21 ∨ kind = 22 then dL kind num != 0
 else if kind = 46 then decide (0 <= num) && decide (num <= n)
 else num == 0
def ndN (l : List Nd) (i : Nat) : Nd := l.getD i nd0
def mM (l : List Nd) (i : Int) : Nd := l.getD i.toNat nd0
def kdN (l : List Nd) (i : Nat) : Int := (ndN l i).kind
def eO (kind num : Int) (place : Nat) : Int :=
 if kind = 22 then (if place = 0 /\ dL kind num ≠ 3 then dL kind num else dL kind num + 1)
 else if kind = 21 then 6
 else if 23 <= kind /\ kind <= 25 then (if place = 0 then 7 else 0)
 else if kind = 43 then (if place = 0 then 6 else 0)
 else 0
def gy (l : List Nd) (n : Nd) : Nat -> List Int -> Bool
 | _, [] => true
 | p, k :: r => if dL (mM l k).kind (mM l k).num < eO n.kind n.num p then false else gy l n (p + 1) r
def dK (l : List Nd) : Nat -> Int -> Bool
 | 0, _ => false
 | f + 1, k => if 22 <= (mM l k).kind /\ (mM l k).kind <= 25 then dK l f ((mM l k).kids.getD 0 0) else (mM l k).kind == 21 && (mM l k).num == 3
def dH (l : List Nd) (n : Nd) : Bool :=
 gy l n 0 n.kids && (n.kind != 44 || !dK l (l.length + 1) (n.kids.getD 0 0))
def dx (fs : List Nat) : Int -> List Int -> Bool
 | _, [] => true
 | next, k :: r => if k = next - 1 /\ 0 <= k then dx fs (fs.getD k.toNat 0) r else false
def eZ (fs : List Nat) (i : Nat) (kids : List Int) : Bool := dx fs i kids.reverse
structure ax where
 kind : Nat
 place : Nat
 num : Nat
 name : List UInt8
def pt0 : ax := ⟨0, 0, 0, []⟩
inductive Tr where
 | mk (kind : Int) (pos : Nat) (num : Int) (name : List UInt8) (kids : List Tr)
inductive Res where
 | ok (ts : List Tr) (s : List ax)
 | err (s : List ax)
 | out
def hd (s : List ax) : ax := s.headD pt0
def kd (s : List ax) : Nat := (hd s).kind
def tl (s : List ax) : List ax := s.tail
def aB (r : Res) (k : List Tr -> List ax -> Res) : Res :=
 match r with
 | .ok a s => k a s
 | .err s => .err s
 | .out => .out
def want (c : Nat) (s : List ax) (k : List ax -> Res) : Res := if kd s = c then k (tl s) else .err s
def eT (s : List ax) (k : List UInt8 -> List ax -> Res) : Res := if kd s = 1 then k (hd s).name (tl s) else .err s
def iM (s : List ax) (k : Nat -> List ax -> Res) : Res := if kd s = 2 then k (hd s).num (tl s) else .err s
def mk1 (kind : Int) (s : List ax) (num : Int) (name : List UInt8) (kids : List Tr) (r : List ax) : Res := .ok [.mk kind (hd s).place num name kids] r
inductive One where
 | typ | expr | param
inductive Rl where
 | typ | chanT | parted (o : One) | listed (o : One) | result
 | operands (least : Int) | ops (least : Int) (left : List Tr) (most : Int) | unary | postf | post (kid : List Tr) | primary | prog | param
 | block | stmts | stmt | branch | arms | arm | tyn | types | tops | program
def Rl.of : One -> Rl
 | .typ => .typ
 | .expr => .operands 1
 | .param => .param
def gz (k : Nat) : Int :=
 if k = 63 then 11 else if k = 62 then 12 else if k = 51 then 21 else if k = 52 then 22 else if k = 53 then 23 else if k = 54 then 24 else if k = 55 then 25 else if k = 56 then 26
 else if k = 57 then 31 else if k = 58 then 32 else if k = 59 then 41 else if k = 60 then 42 else if k = 61 then 43 else 0
def body (g : Rl -> List ax -> Res) : Rl -> List ax -> Res
 | .typ, s =>
  if kd s = 19 then mk1 1 s 0 [] [] (tl s)
  else if kd s = 12 then mk1 2 s 0 [] [] (tl s)
  else if kd s = 10 then want 10 s fun s1 => want 22 s1 fun s2 => aB (g .typ s2) fun a s3 => mk1 4 s 0 [] a s3
  else if kd s = 14 then g .chanT s
  else if kd s = 40 then want 40 s fun s1 => aB (g .typ s1) fun a s2 => want 46 s2 fun s3 => aB (g (.parted .typ) s3) fun b s4 => want 41 s4 fun s5 => mk1 5 s 0 [] (a ++ b) s5
  else if kd s = 23 then want 23 s fun s1 => aB (g (.listed .typ) s1) fun a s2 => aB (g .result s2) fun b s3 => mk1 7 s b.length [] (a ++ b) s3
  else eT s fun n s1 => mk1 3 s 0 n [] s1
 | .chanT, s => want 14 s fun s1 => want 22 s1 fun s2 => aB (g .typ s2) fun a s3 => mk1 6 s 0 [] a s3
 | .parted o, s => aB (g (.of o) s) fun a s1 => if kd s1 = 46 then aB (g (.parted o) (tl s1)) fun b s2 => .ok (a ++ b) s2 else .ok a s1
 | .listed o, s => want 40 s fun s1 => if kd s1 = 41 then .ok [] (tl s1) else aB (g (.parted o) s1) fun a s2 => want 41 s2 fun s3 => .ok a s3
 | .result, s => if kd s = 48 then g .typ (tl s) else .ok [] s
 | .operands least, s => aB (g .unary s) fun a s1 => g (.ops least a 5) s1
 | .ops least left most, s =>
  if aX (gz (kd s)) < least ∨ most < aX (gz (kd s)) then .ok left s
  else aB (g (.operands (aX (gz (kd s)) + 1)) (tl s)) fun b s2 => g (.ops least [.mk 22 (hd s).place (gz (kd s)) [] (left ++ b)] (if aX (gz (kd s)) = 3 then 2 else aX (gz (kd s)))) s2
 | .unary, s =>
  if kd s = 58 then aB (g .unary (tl s)) fun a s1 => mk1 21 s 1 [] a s1
  else if kd s = 64 then aB (g .unary (tl s)) fun a s1 => mk1 21 s 2 [] a s1
  else if kd s = 65 then aB (g .unary (tl s)) fun a s1 => mk1 21 s 3 [] a s1
  else g .postf s
 | .postf, s => aB (g .primary s) fun a s1 => g (.post a) s1
 | .post kid, s =>
  if kd s = 40 then aB (g (.listed .expr) s) fun b s1 => g (.post [.mk 23 (hd s).place 0 [] (kid ++ b)]) s1
  else if kd s = 42 then want 42 s fun s1 => aB (g (.operands 1) s1) fun b s2 => want 43 s2 fun s3 => g (.post [.mk 24 (hd s).place 0 [] (kid ++ b)]) s3
  else if kd s = 49 then want 49 s fun s1 => iM s1 fun n s2 => g (.post [.mk 25 (hd s).place n [] kid]) s2
  else .ok kid s
 | .primary, s =>
  if kd s = 26 then mk1 12 s 1 [] [] (tl s)
  else if kd s = 16 then mk1 12 s 0 [] [] (tl s)
  else if kd s = 40 then want 40 s fun s1 => aB (g (.parted .expr) s1) fun a s2 => want 41 s2 fun s3 => mk1 (if a.length = 1 then 14 else 15) s 0 [] a s3
  else if kd s = 42 then want 42 s fun s1 => aB (g (.parted .expr) s1) fun a s2 => want 43 s2 fun s3 => mk1 16 s 0 [] a s3
  else if kd s = 17 then want 17 s fun s1 => want 40 s1 fun s2 => aB (g (.operands 1) s2) fun a s3 => want 46 s3 fun s4 => aB (g (.operands 1) s4) fun b s5 => want 41 s5 fun s6 => mk1 17 s 0 [] (a ++ b) s6
  else if kd s = 20 then want 20 s fun s1 => want 40 s1 fun s2 => aB (g (.operands 1) s2) fun a s3 => want 41 s3 fun s4 => mk1 18 s 0 [] a s4
  else if kd s = 21 then want 21 s fun s1 => aB (g .chanT s1) fun a s2 => mk1 19 s 0 [] a s2
  else if kd s = 23 then g .prog s
  else if kd s = 2 then iM s fun n s1 => mk1 11 s n [] [] s1
  else eT s fun n s1 => mk1 13 s 0 n [] s1
 | .prog, s => want 23 s fun s1 =>
  if kd s1 = 1 then eT s1 fun n s2 => aB (g (.listed .param) s2) fun a s3 => aB (g .result s3) fun b s4 => aB (g .block s4) fun c s5 => mk1 20 s b.length n (a ++ (b ++ c)) s5
  else aB (g (.listed .param) s1) fun a s3 => aB (g .result s3) fun b s4 => aB (g .block s4) fun c s5 => mk1 20 s b.length [] (a ++ (b ++ c)) s5
 | .param, s => eT s fun n s1 => want 48 s1 fun s2 => aB (g .typ s2) fun a s3 => mk1 42 s 0 n a s3
 | .block, s => want 44 s fun s1 => aB (g .stmts s1) fun a s2 => mk1 41 s 0 [] a s2
 | .stmts, s => if kd s = 45 then .ok [] (tl s) else aB (g .stmt s) fun a s1 => aB (g .stmts s1) fun b s2 => .ok (a ++ b) s2
 | .stmt, s =>
  if kd s = 28 then want 28 s fun s1 => eT s1 fun n s2 => want 50 s2 fun s3 => aB (g (.operands 1) s3) fun a s4 => want 47 s4 fun s5 => mk1 31 s 0 n a s5
  else if kd s = 29 then want 29 s fun s1 => eT s1 fun n s2 => want 48 s2 fun s3 => aB (g .typ s3) fun a s4 =>
   if kd s4 = 50 then want 50 s4 fun s5 => aB (g (.operands 1) s5) fun b s6 => want 47 s6 fun s7 => mk1 32 s 0 n (a ++ b) s7 else want 47 s4 fun s5 => mk1 32 s 0 n a s5
  else if kd s = 18 then g .branch s
  else if kd s = 30 then want 30 s fun s1 => aB (g (.operands 1) s1) fun a s2 => aB (g .block s2) fun b s3 => mk1 37 s 0 [] (a ++ b) s3
  else if kd s = 24 then want 24 s fun s1 => if kd s1 = 47 then want 47 s1 fun s2 => mk1 38 s 0 [] [] s2 else aB (g (.operands 1) s1) fun a s2 => want 47 s2 fun s3 => mk1 38 s 0 [] a s3
  else if kd s = 11 then want 11 s fun s1 => aB (g (.operands 1) s1) fun a s2 => want 47 s2 fun s3 => mk1 39 s 0 [] a s3
  else if kd s = 25 then want 25 s fun s1 => want 44 s1 fun s2 => aB (g .arms s2) fun a s3 => mk1 40 s 0 [] a s3
  else if kd s = 44 then g .block s
  else aB (g (.operands 1) s) fun a s1 =>
   if kd s1 = 50 then want 50 s1 fun s2 => aB (g (.operands 1) s2) fun b s3 => want 47 s3 fun s4 => mk1 33 s1 0 [] (a ++ b) s4
   else if kd s1 = 66 then want 66 s1 fun s2 => aB (g (.operands 1) s2) fun b s3 => want 47 s3 fun s4 => mk1 34 s1 0 [] (a ++ b) s4
   else want 47 s1 fun s2 => mk1 35 s 0 [] a s2
 | .branch, s => want 18 s fun s1 => aB (g (.operands 1) s1) fun a s2 => aB (g .block s2) fun b s3 =>
  if kd s3 = 15 then want 15 s3 fun s4 => if kd s4 = 18 then aB (g .branch s4) fun c s5 => mk1 36 s 0 [] (a ++ (b ++ c)) s5 else aB (g .block s4) fun c s5 => mk1 36 s 0 [] (a ++ (b ++ c)) s5
  else mk1 36 s 0 [] (a ++ b) s3
 | .arms, s => if kd s = 45 then .ok [] (tl s) else aB (g .arm s) fun a s1 => aB (g .arms s1) fun b s2 => .ok (a ++ b) s2
 | .arm, s => want 13 s fun s1 =>
  if kd s1 = 65 then want 65 s1 fun s2 => aB (g .unary s2) fun a s3 => aB (g .block s3) fun b s4 => mk1 43 s 0 [] (a ++ b) s4
  else if kd s1 = 1 /\ kd (tl s1) = 50 then eT s1 fun n s2 => want 50 s2 fun s3 => want 65 s3 fun s4 => aB (g .unary s4) fun a s5 => aB (g .block s5) fun b s6 => mk1 43 s 0 n (a ++ b) s6
  else aB (g (.operands 1) s1) fun a s2 => want 66 s2 fun s3 => aB (g (.operands 1) s3) fun b s4 => aB (g .block s4) fun c s5 => mk1 44 s 0 [] (a ++ (b ++ c)) s5
 | .tyn, s => want 27 s fun s1 => eT s1 fun n s2 => want 50 s2 fun s3 => aB (g .typ s3) fun a s4 => want 47 s4 fun s5 => mk1 45 s 0 n a s5
 | .types, s => if kd s = 27 then aB (g .tyn s) fun a s1 => aB (g .types s1) fun b s2 => .ok (a ++ b) s2 else .ok [] s
 | .tops, s => if s.length <= 1 then .ok [] s else aB (g .stmt s) fun a s1 => aB (g .tops s1) fun b s2 => .ok (a ++ b) s2
 | .program, s => aB (g .types s) fun a s1 => aB (g .tops s1) fun b s2 => .ok [.mk 46 0 a.length [] (a ++ b)] s2
def pF : Nat -> Rl -> List ax -> Res
 | 0, _, _ => .out
 | f + 1, r, s => body (pF f) r s
def Le (a b : Res) : Prop := ∀ t s, a = .ok t s -> b = .ok t s
theorem le_refl (a : Res) : Le a a := fun _ _ h => h
def P (r : Rl) (s : List ax) (ts : List Tr) (s' : List ax) : Prop := ∃ f, pF f r s = .ok ts s'
def Q (G : (Rl -> List ax -> Res) -> Res) (ts : List Tr) (s' : List ax) : Prop := ∃ f, ∀ f', f <= f' -> G (pF f') = .ok ts s'

def gm (c : Int) : Bool := c == 9 || c == 10 || c == 13 || c == 32
def jP (c : Int) : Bool := c != 10
def wsI (c : Int) : Bool := (decide (97 <= c) && decide (c <= 122)) || (decide (65 <= c) && decide (c <= 90)) || c == 95
def bF (c : Int) : Bool := decide (48 <= c) && decide (c <= 57)
def wbI (c : Int) : Bool := wsI c || bF c
def eD (p : Int -> Bool) : List UInt8 -> Nat
 | [] => 0
 | b :: r => if p b.toNat then eD p r + 1 else 0
theorem vK (p : Int -> Bool) : ∀ l : List UInt8, eD p l <= l.length
 | [] => Nat.le_refl _
 | b :: r => by
  have := vK p r
  simp only [eD, List.length_cons]
  split <;> omega
def fI : Bool -> List UInt8 -> Nat
 | _, [] => 0
 | true, b :: r => if jP b.toNat then fI true r + 1 else fI false r + 1
 | false, b :: r => if gm b.toNat then fI false r + 1 else if (b.toNat : Int) == 35 then fI true r + 1 else 0
theorem kG : ∀ (t : Bool) (l : List UInt8), fI t l <= l.length
 | _, [] => by simp [fI]
 | true, b :: r => by
  have h1 := kG true r
  have h2 := kG false r
  simp only [fI, List.length_cons]
  split <;> omega
 | false, b :: r => by
  have h1 := kG true r
  have h2 := kG false r
  simp only [fI, List.length_cons]
  split
  ·omega
  ·split <;> omega
theorem sG : ∀ l : List UInt8, fI true l = eD jP l + fI false (l.drop (eD jP l))
 | [] => by simp [fI, eD]
 | b :: r => by
  by_cases h : jP (b.toNat : Int) = true
  ·have ih := sG r
   simp only [fI, eD, h, if_true, List.drop_succ_cons]
   omega
  ·have h10 : gm (b.toNat : Int) = true := by
    simp only [jP, bne_iff_ne, ne_eq, Decidable.not_not] at h
    rw [h]; rfl
   simp [fI, eD, h, h10]
theorem drop_at (xs : List UInt8) (k : Nat) (h : k < xs.length) : xs.drop k = xs[k] :: xs.drop (k + 1) := List.drop_eq_getElem_cons h
def aC (p : Int -> Bool) (xs : List UInt8) (k : Nat) : Nat := k + eD p (xs.drop k)
def bB (xs : List UInt8) (k : Nat) : Nat := k + fI false (xs.drop k)
theorem dN (p : Int -> Bool) (xs : List UInt8) (k : Nat) (h : k <= xs.length) : k <= aC p xs k /\ aC p xs k <= xs.length := by
 have := vK p (xs.drop k)
 simp only [List.length_drop] at this
 unfold aC
 omega
theorem iq (xs : List UInt8) (k : Nat) (h : k <= xs.length) : k <= bB xs k /\ bB xs k <= xs.length := by
 have := kG false (xs.drop k)
 simp only [List.length_drop] at this
 unfold bB
 omega
theorem fC (p : Int -> Bool) (xs : List UInt8) (k : Nat) (h : k < xs.length) (hp : p (xs[k].toNat : Int) = true) : aC p xs k = aC p xs (k + 1) := by
 unfold aC
 rw [drop_at xs k h]
 simp only [eD, hp, if_true]
 omega
theorem nQ (p : Int -> Bool) (xs : List UInt8) (k : Nat) (h : k < xs.length) (hp : p (xs[k].toNat : Int) = false) : aC p xs k = k := by
 unfold aC
 rw [drop_at xs k h]
 simp [eD, hp]
theorem jh (p : Int -> Bool) (xs : List UInt8) (k : Nat) (h : xs.length <= k) : aC p xs k = k := by
 unfold aC
 rw [List.drop_eq_nil_of_le h]
 simp [eD]
theorem um (xs : List UInt8) (k : Nat) (h : k < xs.length) (hp : gm (xs[k].toNat : Int) = true) : bB xs k = bB xs (k + 1) := by
 unfold bB
 rw [drop_at xs k h]
 simp only [fI, hp, if_true]
 omega
theorem yD (xs : List UInt8) (k : Nat) (h : k < xs.length) (hp : gm (xs[k].toNat : Int) = false) (hr : ((xs[k].toNat : Int) == 35) = true) : bB xs k = bB xs (aC jP xs k) := by
 have hre : jP (xs[k].toNat : Int) = true := by
  simp only [beq_iff_eq] at hr
  rw [hr]; rfl
 rw [fC jP xs k h hre]
 unfold bB aC
 rw [drop_at xs k h]
 simp only [fI, hp, hr, if_true, sG, Bool.false_eq_true, if_false, List.drop_drop]
 omega
theorem BK (xs : List UInt8) (k : Nat) (h : k < xs.length) (hp : gm (xs[k].toNat : Int) = false) (hr : ((xs[k].toNat : Int) == 35) = false) : bB xs k = k := by
 unfold bB
 rw [drop_at xs k h]
 simp [fI, hp, hr]
theorem pO (xs : List UInt8) (k : Nat) (h : xs.length <= k) : bB xs k = k := by
 unfold bB
 rw [List.drop_eq_nil_of_le h]
 simp [fI]
theorem rW (xs : List UInt8) (k : Nat) (h : k < xs.length) (hr : ((xs[k].toNat : Int) == 35) = true) : k < aC jP xs k := by
 have hre : jP (xs[k].toNat : Int) = true := by
  simp only [beq_iff_eq] at hr
  rw [hr]; rfl
 rw [fC jP xs k h hre]
 have := (dN jP xs (k + 1) (by omega)).1
 omega
end Go.Proofs.YtecodpdfckjalaaGreatDoor
namespace Go.Proofs.YtecodpdfckjalaaGreatDoor
open Go.RowKit
theorem fJ {k : IntKind} {a b : Int} (h : a = b) : Ending.returned (.int k a) = .returned (.int k b) := by rw [h]
theorem mO (c : Int) (w : World) : Calls Tryz.prog 60 #[.int .u8 c] w fun e w' => e = .returned (.bool (jP c)) /\ w = w' := by
  go_enter Tryz.func60, Tryz.ntmps60
  go_wp2
  go_ret
  exact ⟨rfl, rfl⟩
theorem gN (c : Int) (w : World) : Calls Tryz.prog 63 #[.int .u8 c] w fun e w' => e = .returned (.bool (bF c)) /\ w = w' := by
  unfold bF
  by_cases h1 : 48 <= c
  · go_enter Tryz.func63, Tryz.ntmps63
    go_wp2
    go_ret
    exact ⟨by simp [h1], rfl⟩
  · have h2 : decide (48 <= c) = false := by simpa using h1
    rw [h2]
    go_enter Tryz.func63, Tryz.ntmps63
    go_wp2
    go_ret
    exact ⟨by simp, rfl⟩
theorem kH (c : Int) (w : World) : Calls Tryz.prog 58 #[.int .u8 c] w fun e w' => e = .returned (.bool (gm c)) /\ w = w' := by
  unfold gm
  cases h1 : (c == 9)
  · cases h2 : (c == 10)
    · cases h3 : (c == 13)
      · go_enter Tryz.func58, Tryz.ntmps58
        go_wp2
        go_ret
        exact ⟨by simp, rfl⟩
      · go_enter Tryz.func58, Tryz.ntmps58
        go_wp2
        go_ret
        exact ⟨by simp, rfl⟩
    · go_enter Tryz.func58, Tryz.ntmps58
      go_wp2
      go_ret
      exact ⟨by simp, rfl⟩
  · go_enter Tryz.func58, Tryz.ntmps58
    go_wp2
    go_ret
    exact ⟨by simp, rfl⟩
theorem bi (c : Int) (w : World) : Calls Tryz.prog 61 #[.int .u8 c] w fun e w' => e = .returned (.bool (wsI c)) /\ w = w' := by
  unfold wsI
  cases h1 : decide (97 <= c) <;> cases h2 : decide (c <= 122) <;> cases h3 : decide (65 <= c) <;> cases h4 : decide (c <= 90) <;>
    (go_enter Tryz.func61, Tryz.ntmps61
     go_wp2
     go_ret
     exact ⟨by simp, rfl⟩)
theorem kI (c : Int) (w : World) : Calls Tryz.prog 79 #[.int .u8 c] w fun e w' => e = .returned (.bool (wbI c)) /\ w = w' := by
  unfold wbI
  cases h1 : wsI c
  · go_enter Tryz.func79, Tryz.ntmps79
    go_wp2_with (first | (go_at_call 61; refine (bi _ _).mono ?_; rintro e w' ⟨rfl, rfl⟩) | (go_at_call 63; refine (gN _ _).mono ?_; rintro e w' ⟨rfl, rfl⟩))
    go_ret
    exact ⟨by simp, rfl⟩
  · go_enter Tryz.func79, Tryz.ntmps79
    go_wp2_with (first | (go_at_call 61; refine (bi _ _).mono ?_; rintro e w' ⟨rfl, rfl⟩) | (go_at_call 63; refine (gN _ _).mono ?_; rintro e w' ⟨rfl, rfl⟩))
    go_ret
    exact ⟨by simp, rfl⟩
def Src (w : World) (b o : Nat) (xs : List UInt8) : Prop := ∀ i (h : i < xs.length), w.cell? ⟨b, o + i, none⟩ = some (.int .u8 (xs[i].toNat : Int))
theorem yE (b o cap : Nat) (xs : List UInt8) (k : Nat) (w : World) (hs : Src w b o xs) (hl : xs.length <= maxLen) (hk : k <= xs.length) :
    Calls Tryz.prog 59 #[.slice (some ⟨b, o, none⟩) xs.length cap, .int .i64 k, .func (.func 60) #[] #[]] w fun e w' => e = .returned (.int .i64 (aC jP xs k)) /\ w = w' := by
  unfold maxLen at hl
  go_enter Tryz.func59, Tryz.ntmps59
  go_wp2
  go_loop [1] (fun i => ∃ j : Nat, j <= xs.length /\ i = .int .i64 j /\ Hid (aC jP xs k = aC jP xs j)) (fun i => xs.length - (intOf i).toNat)
  case atStart => exact ⟨k, hk, rfl, rfl⟩
  case round =>
    obtain ⟨j, hj, rfl, H⟩ := hrel
    by_cases hlt : j < xs.length
    · have hc := hs j hlt
      cases hb : jP (xs[j].toNat : Int)
      · go_wp2_with (first | (go_at_call 60; refine (mO _ _).mono ?_; rintro e w' ⟨rfl, rfl⟩))
        go_ret
        exact ⟨fJ (by rw [H.out, nQ _ _ _ hlt hb]), rfl⟩
      · go_wp2_with (first | (go_at_call 60; refine (mO _ _).mono ?_; rintro e w' ⟨rfl, rfl⟩))
        go_round
        case rel => exact ⟨j + 1, by omega, by go_num, by rw [H.out]; exact fC _ _ _ hlt hb⟩
        case measure => simp [intOf]; omega
    · go_wp2
      go_ret
      exact ⟨fJ (by rw [H.out, jh _ _ _ (by omega)]), rfl⟩
theorem yF (b o cap : Nat) (xs : List UInt8) (k : Nat) (w : World) (hs : Src w b o xs) (hl : xs.length <= maxLen) (hk : k <= xs.length) :
    Calls Tryz.prog 59 #[.slice (some ⟨b, o, none⟩) xs.length cap, .int .i64 k, .func (.func 63) #[] #[]] w fun e w' => e = .returned (.int .i64 (aC bF xs k)) /\ w = w' := by
  unfold maxLen at hl
  go_enter Tryz.func59, Tryz.ntmps59
  go_wp2
  go_loop [1] (fun i => ∃ j : Nat, j <= xs.length /\ i = .int .i64 j /\ Hid (aC bF xs k = aC bF xs j)) (fun i => xs.length - (intOf i).toNat)
  case atStart => exact ⟨k, hk, rfl, rfl⟩
  case round =>
    obtain ⟨j, hj, rfl, H⟩ := hrel
    by_cases hlt : j < xs.length
    · have hc := hs j hlt
      cases hb : bF (xs[j].toNat : Int)
      · go_wp2_with (first | (go_at_call 63; refine (gN _ _).mono ?_; rintro e w' ⟨rfl, rfl⟩))
        go_ret
        exact ⟨fJ (by rw [H.out, nQ _ _ _ hlt hb]), rfl⟩
      · go_wp2_with (first | (go_at_call 63; refine (gN _ _).mono ?_; rintro e w' ⟨rfl, rfl⟩))
        go_round
        case rel => exact ⟨j + 1, by omega, by go_num, by rw [H.out]; exact fC _ _ _ hlt hb⟩
        case measure => simp [intOf]; omega
    · go_wp2
      go_ret
      exact ⟨fJ (by rw [H.out, jh _ _ _ (by omega)]), rfl⟩
theorem yG (b o cap : Nat) (xs : List UInt8) (k : Nat) (w : World) (hs : Src w b o xs) (hl : xs.length <= maxLen) (hk : k <= xs.length) :
    Calls Tryz.prog 59 #[.slice (some ⟨b, o, none⟩) xs.length cap, .int .i64 k, .func (.func 79) #[] #[]] w fun e w' => e = .returned (.int .i64 (aC wbI xs k)) /\ w = w' := by
  unfold maxLen at hl
  go_enter Tryz.func59, Tryz.ntmps59
  go_wp2
  go_loop [1] (fun i => ∃ j : Nat, j <= xs.length /\ i = .int .i64 j /\ Hid (aC wbI xs k = aC wbI xs j)) (fun i => xs.length - (intOf i).toNat)
  case atStart => exact ⟨k, hk, rfl, rfl⟩
  case round =>
    obtain ⟨j, hj, rfl, H⟩ := hrel
    by_cases hlt : j < xs.length
    · have hc := hs j hlt
      cases hb : wbI (xs[j].toNat : Int)
      · go_wp2_with (first | (go_at_call 79; refine (kI _ _).mono ?_; rintro e w' ⟨rfl, rfl⟩))
        go_ret
        exact ⟨fJ (by rw [H.out, nQ _ _ _ hlt hb]), rfl⟩
      · go_wp2_with (first | (go_at_call 79; refine (kI _ _).mono ?_; rintro e w' ⟨rfl, rfl⟩))
        go_round
        case rel => exact ⟨j + 1, by omega, by go_num, by rw [H.out]; exact fC _ _ _ hlt hb⟩
        case measure => simp [intOf]; omega
    · go_wp2
      go_ret
      exact ⟨fJ (by rw [H.out, jh _ _ _ (by omega)]), rfl⟩
theorem vL (b o cap : Nat) (xs : List UInt8) (k : Nat) (w : World) (hs : Src w b o xs) (hl : xs.length <= maxLen) (hk : k <= xs.length) :
    Calls Tryz.prog 35 #[.slice (some ⟨b, o, none⟩) xs.length cap, .int .i64 k] w fun e w' => e = .returned (.int .i64 (bB xs k)) /\ w = w' := by
  have hl0 := hl
  unfold maxLen at hl
  go_enter Tryz.func35, Tryz.ntmps35
  go_wp2
  go_loop [1] (fun i => ∃ j : Nat, j <= xs.length /\ i = .int .i64 j /\ Hid (bB xs k = bB xs j)) (fun i => xs.length - (intOf i).toNat)
  case atStart => exact ⟨k, hk, rfl, rfl⟩
  case round =>
    obtain ⟨j, hj, rfl, H⟩ := hrel
    by_cases hlt : j < xs.length
    · have hc := hs j hlt
      cases hb : gm (xs[j].toNat : Int)
      · cases hr : ((xs[j].toNat : Int) == 35)
        · go_wp2_with (first | (go_at_call 58; refine (kH _ _).mono ?_; rintro e w' ⟨rfl, rfl⟩))
          go_ret
          exact ⟨fJ (by rw [H.out, BK _ _ hlt hb hr]), rfl⟩
        · have hgt := rW xs j hlt hr
          have hle := (dN jP xs j hj).2
          go_wp2_with (first | (go_at_call 58; refine (kH _ _).mono ?_; rintro e w' ⟨rfl, rfl⟩) | (go_at_call 59; refine (yE _ _ _ _ _ _ hs hl0 hj).mono ?_; rintro e w' ⟨rfl, rfl⟩))
          go_round
          case rel => exact ⟨aC jP xs j, hle, rfl, by rw [H.out]; exact yD _ _ hlt hb hr⟩
          case measure => simp [intOf]; omega
      · go_wp2_with (first | (go_at_call 58; refine (kH _ _).mono ?_; rintro e w' ⟨rfl, rfl⟩))
        go_round
        case rel => exact ⟨j + 1, by omega, by go_num, by rw [H.out]; exact um _ _ hlt hb⟩
        case measure => simp [intOf]; omega
    · go_wp2
      go_ret
      exact ⟨fJ (by rw [H.out, pO _ _ (by omega)]), rfl⟩
theorem skip_none (a : Option Addr) (cap : Nat) (w : World) :
    Calls Tryz.prog 35 #[.slice a 0 cap, .int .i64 0] w fun e w' => e = .returned (.int .i64 0) /\ w = w' := by
  go_enter Tryz.func35, Tryz.ntmps35
  go_wp2
  go_loop [1] (fun i => i = .int .i64 0) (fun _ => 0)
  case atStart => rfl
  case round =>
    subst hrel
    go_wp2
    go_ret
    exact ⟨rfl, rfl⟩
def eF : List (List UInt8) := [[97, 114, 114, 97, 121], [98, 101, 103, 105, 110], [98, 111, 111, 108], [99, 97, 115, 101], [99, 104, 97, 110], [101, 108, 115, 101], [102, 97, 108, 115, 101], [102, 105, 108, 108], [105, 102], [105, 110, 116], [108, 101, 110], [109, 97, 107, 101], [111, 102], [112, 114, 111, 103], [114, 101, 116, 117, 114, 110], [115, 101, 108, 101, 99, 116], [116, 114, 117, 101], [116, 121, 112, 101], [118, 97, 108], [118, 97, 114], [119, 104, 105, 108, 101]]
def bW : List (List UInt8) := [[40], [41], [91], [93], [123], [125], [44], [59], [58], [46], [61], [61, 61], [33, 61], [60], [60, 61], [62], [62, 61], [43], [45], [42], [47], [37], [38, 38], [124, 124], [33], [60, 45], [60, 45, 61]]
def uo (l : List UInt8) : Value := .string ⟨l.toArray⟩
def TabAt (w : World) (g : Nat) (T : List (List UInt8)) : Prop := ∀ i, i < T.length -> w.cell? ⟨g, i, none⟩ = some (.string ⟨(T.getD i []).toArray⟩)
def bT : List (List UInt8) -> Nat -> List UInt8 -> Nat
 | [], _, _ => 0
 | x :: r, n, t => if x == t then n else bT r (n + 1) t
theorem uq (T : List (List UInt8)) (j n : Nat) (t : List UInt8) (h : j < T.length) (hq : (T[j]?.getD [] == t) = true) : bT (T.drop j) n t = n := by
 rw [List.drop_eq_getElem_cons h]
 rw [List.getElem?_eq_getElem h, Option.getD_some] at hq
 simp only [bT, hq, if_true]
theorem vM (T : List (List UInt8)) (j n : Nat) (t : List UInt8) (h : j < T.length) (hq : (T[j]?.getD [] == t) = false) : bT (T.drop j) n t = bT (T.drop (j + 1)) (n + 1) t := by
 rw [List.drop_eq_getElem_cons h]
 rw [List.getElem?_eq_getElem h, Option.getD_some] at hq
 simp only [bT, hq, Bool.false_eq_true, if_false]
theorem ow : ∀ (T : List (List UInt8)) (n : Nat) (t : List UInt8), bT T n t <= n + T.length
 | [], n, t => by simp [bT]
 | x :: r, n, t => by
  have := ow r (n + 1) t
  simp only [bT, List.length_cons]
  split <;> omega
def fA (t : List UInt8) : Nat := bT eF 10 t
def JL (t : List UInt8) : Nat := bT bW 40 t
def DW (t : List UInt8) : Nat := if fA t = 0 then JL t else fA t
theorem DX (t : List UInt8) : fA t <= 31 := ow eF 10 t
theorem ut (s : ByteArray) (w : World) (ht : TabAt w 1 eF) :
  Calls Tryz.prog 80 #[.string s] w fun e w' => e = .returned (.int .i64 (fA s.toList)) /\ w = w' := by
 go_enter Tryz.func80, Tryz.ntmps80
 go_wp2
 go_loop [4] (fun i => ∃ j : Nat, j <= 21 /\ i = .int .i64 j /\ Hid (fA s.toList = bT (eF.drop j) (10 + j) s.toList)) (fun i => 21 - (intOf i).toNat)
 case atStart => exact ⟨0, by omega, rfl, rfl⟩
 case round =>
  obtain ⟨j, hj, rfl, H⟩ := hrel
  by_cases hlt : j < 21
  ·have hc := ht j hlt
   cases hq : (eF[j]?.getD [] == s.toList)
   ·have HQ : Hid (fA s.toList = bT (eF.drop (j + 1)) (10 + (j + 1)) s.toList) := by
     have := vM eF j (10 + j) s.toList hlt hq
     exact H.out.trans this
    go_wp2
    go_round
    case rel => exact ⟨j + 1, by omega, by go_num, HQ⟩
    case measure => simp [intOf]; omega
   ·have HQ : Hid (fA s.toList = 10 + j) := H.out.trans (uq eF j (10 + j) s.toList hlt hq)
    go_wp2
    go_ret
    exact ⟨fJ (by rw [HQ.out]; omega), rfl⟩
  ·have HQ : Hid (fA s.toList = 0) := H.out.trans (by rw [List.drop_eq_nil_of_le (show eF.length <= j from Nat.le_of_not_lt hlt)]; rfl)
   go_wp2
   go_ret
   exact ⟨fJ (by rw [HQ.out]; rfl), rfl⟩
def au (k : Int) : List UInt8 := if 10 <= k /\ k < 31 then eF.getD (k - 10).toNat [] else if 40 <= k /\ k < 67 then bW.getD (k - 40).toNat [] else []
end Go.Proofs.YtecodpdfckjalaaGreatDoor
