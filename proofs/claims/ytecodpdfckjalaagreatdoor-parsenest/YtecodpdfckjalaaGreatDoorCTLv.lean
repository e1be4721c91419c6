import Derived.Test.YtecodpdfckjalaaGreatDoorCNext
import Derived.Test.YtecodpdfckjalaaGreatDoorCPlain
import Derived.WalkSmall
import Derived.Deep.RegionHeld
import Derived.Deep.QuietTactic
import Derived.BigQuiet
import Derived.WalkLawsBesides
namespace Go.Proofs.YtecodpdfckjalaaGreatDoor
open Go.RowKit
set_option linter.unusedVariables false
set_option linter.unusedSimpArgs false

structure Bx (p : Prop) : Prop where
  out : p
theorem ret_bool {a b : Bool} (h : a = b) : Ending.returned (.bool a) = .returned (.bool b) := by rw [h]
theorem below1 (w : World) (o : Obj) : Below w.heap.size w (w.alloc o) := (Below.refl _ _).alloc (Nat.le_refl _) _

/-- a node as a value: where its kids lie, and their capacity -/
def ndV (ka : Option Addr) (kc : Nat) (n : Nd) : Value := .agg #[.int .i64 n.kind, .int .i64 n.pos, .slice ka n.kids.length kc, .string n.name, .int .i64 n.num]

theorem isType_any (k : Int) (w : World) : Calls Tryz.prog 28 #[.int .i64 k] w fun e w' => e = .returned (.bool (typI k)) ∧ w = w' := by
  unfold typI
  cases h1 : decide (1 ≤ k) <;>
    (go_enter Tryz.func28, Tryz.ntmps28
     go_wp2
     go_ret
     exact ⟨by simp, rfl⟩)
theorem isExpr_any (k : Int) (w : World) : Calls Tryz.prog 30 #[.int .i64 k] w fun e w' => e = .returned (.bool (exprI k)) ∧ w = w' := by
  unfold exprI
  cases h1 : decide (11 ≤ k) <;>
    (go_enter Tryz.func30, Tryz.ntmps30
     go_wp2
     go_ret
     exact ⟨by simp, rfl⟩)
theorem isStatement_any (k : Int) (w : World) : Calls Tryz.prog 32 #[.int .i64 k] w fun e w' => e = .returned (.bool (statI k)) ∧ w = w' := by
  unfold statI
  cases h1 : decide (31 ≤ k) <;>
    (go_enter Tryz.func32, Tryz.ntmps32
     go_wp2
     go_ret
     exact ⟨by simp, rfl⟩)
theorem isKind_any (k : Int) (w : World) : Calls Tryz.prog 22 #[.int .i64 k] w fun e w' => e = .returned (.bool (kindI k)) ∧ w = w' := by
  unfold kindI
  cases h1 : typI k <;> cases h2 : exprI k <;> cases h3 : statI k <;> cases h4 : decide (42 ≤ k) <;>
    (go_enter Tryz.func22, Tryz.ntmps22
     go_wp2_with (first | (go_at_call 28; refine (isType_any _ _).mono ?_; rintro e w' ⟨rfl, rfl⟩) | (go_at_call 30; refine (isExpr_any _ _).mono ?_; rintro e w' ⟨rfl, rfl⟩) | (go_at_call 32; refine (isStatement_any _ _).mono ?_; rintro e w' ⟨rfl, rfl⟩))
     go_ret
     exact ⟨by simp, rfl⟩)
theorem isArm_any (k : Int) (w : World) : Calls Tryz.prog 46 #[.int .i64 k] w fun e w' => e = .returned (.bool (armI k)) ∧ w = w' := by
  unfold armI
  cases h1 : (k == 43) <;>
    (go_enter Tryz.func46, Tryz.ntmps46
     go_wp2
     go_ret
     exact ⟨by simp, rfl⟩)
theorem isElse_any (k : Int) (w : World) : Calls Tryz.prog 45 #[.int .i64 k] w fun e w' => e = .returned (.bool (elseI k)) ∧ w = w' := by
  unfold elseI
  cases h1 : (k == 41) <;>
    (go_enter Tryz.func45, Tryz.ntmps45
     go_wp2
     go_ret
     exact ⟨by simp, rfl⟩)

set_option maxHeartbeats 1000000 in
theorem binLevel_any (op : Int) (w : World) : Calls Tryz.prog 71 #[.int .i64 op] w fun e w' => e = .returned (.int .i64 (binLevelI op)) ∧ w = w' := by
  go_enter Tryz.func71, Tryz.ntmps71
  go_wp2
  all_goals
    go_ret
    refine ⟨ret_int ?_, rfl⟩
    simp at *
    unfold binLevelI
    (repeat' split) <;> omega

set_option maxHeartbeats 1000000 in
theorem Level_any (ka : Option Addr) (kc : Nat) (n : Nd) (w : World) : Calls Tryz.prog 39 #[ndV ka kc n] w fun e w' => e = .returned (.int .i64 (levelI n.kind n.num)) ∧ Below w.heap.size w w' := by
  obtain ⟨k, p, ks, nm, num⟩ := n
  unfold ndV
  simp only
  have hx : ∀ j, exprI j = (decide (11 ≤ j) && decide (j ≤ 25)) := fun _ => rfl
  go_enter Tryz.func39, Tryz.ntmps39
  go_wp2_with (first | (go_at_call 71; refine (binLevel_any _ _).mono ?_; rintro e w' ⟨rfl, rfl⟩) | (go_at_call 30; refine (isExpr_any _ _).mono ?_; rintro e w' ⟨rfl, rfl⟩))
  all_goals
    go_ret
    refine ⟨ret_int ?_, below1 _ _⟩
    unfold levelI exprI at *
    simp at *
    (repeat' split) <;> first | rfl | omega
end Go.Proofs.YtecodpdfckjalaaGreatDoor
namespace Go.Proofs.YtecodpdfckjalaaGreatDoor
set_option linter.unusedVariables false
set_option linter.unusedSimpArgs false

/-- a token, as the reader sees it -/
structure PTok where
  kind : Nat
  place : Nat
  num : Nat
  name : List UInt8
def pt0 : PTok := ⟨0, 0, 0, []⟩
/-- a tree: kind, place, number, name, kids -/
inductive Tr where
  | mk (kind : Int) (pos : Nat) (num : Int) (name : List UInt8) (kids : List Tr)
/-- what a rule tells: trees and what is left; or where it stood still -/
inductive Res where
  | ok (ts : List Tr) (s : List PTok)
  | err (s : List PTok)
  | out
def hd (s : List PTok) : PTok := s.headD pt0
def kd (s : List PTok) : Nat := (hd s).kind
def tl (s : List PTok) : List PTok := s.tail

def andT (r : Res) (k : List Tr → List PTok → Res) : Res :=
  match r with
  | .ok a s => k a s
  | .err s => .err s
  | .out => .out
def want (c : Nat) (s : List PTok) (k : List PTok → Res) : Res := if kd s = c then k (tl s) else .err s
def nameK (s : List PTok) (k : List UInt8 → List PTok → Res) : Res := if kd s = 1 then k (hd s).name (tl s) else .err s
def numK (s : List PTok) (k : Nat → List PTok → Res) : Res := if kd s = 2 then k (hd s).num (tl s) else .err s
/-- one node, made at the token s begins with -/
def mk1 (kind : Int) (s : List PTok) (num : Int) (name : List UInt8) (kids : List Tr) (r : List PTok) : Res := .ok [.mk kind (hd s).place num name kids] r

inductive One where
  | typ | expr | param
inductive Rl where
  | typ | chanT | parted (o : One) | listed (o : One) | result
  | operands (least : Int) | ops (least : Int) (left : List Tr) (most : Int) | unary | postf | post (kid : List Tr) | primary | prog | param
  | block | stmts | stmt | branch | arms | arm | tyn | types | tops | program
def Rl.of : One → Rl
  | .typ => .typ
  | .expr => .operands 1
  | .param => .param
/-- the operator that a sign is between two operands -/
def betw (k : Nat) : Int :=
  if k = 63 then 11 else if k = 62 then 12 else if k = 51 then 21 else if k = 52 then 22 else if k = 53 then 23 else if k = 54 then 24 else if k = 55 then 25 else if k = 56 then 26
  else if k = 57 then 31 else if k = 58 then 32 else if k = 59 then 41 else if k = 60 then 42 else if k = 61 then 43 else 0

/-- ONE STEP OF EACH RULE (g: what the rules below it tell) -/
def body (g : Rl → List PTok → Res) : Rl → List PTok → Res
  | .typ, s =>
    if kd s = 19 then mk1 1 s 0 [] [] (tl s)
    else if kd s = 12 then mk1 2 s 0 [] [] (tl s)
    else if kd s = 10 then want 10 s fun s1 => want 22 s1 fun s2 => andT (g .typ s2) fun a s3 => mk1 4 s 0 [] a s3
    else if kd s = 14 then g .chanT s
    else if kd s = 40 then want 40 s fun s1 => andT (g .typ s1) fun a s2 => want 46 s2 fun s3 => andT (g (.parted .typ) s3) fun b s4 => want 41 s4 fun s5 => mk1 5 s 0 [] (a ++ b) s5
    else if kd s = 23 then want 23 s fun s1 => andT (g (.listed .typ) s1) fun a s2 => andT (g .result s2) fun b s3 => mk1 7 s b.length [] (a ++ b) s3
    else nameK s fun n s1 => mk1 3 s 0 n [] s1
  | .chanT, s => want 14 s fun s1 => want 22 s1 fun s2 => andT (g .typ s2) fun a s3 => mk1 6 s 0 [] a s3
  | .parted o, s => andT (g (.of o) s) fun a s1 => if kd s1 = 46 then andT (g (.parted o) (tl s1)) fun b s2 => .ok (a ++ b) s2 else .ok a s1
  | .listed o, s => want 40 s fun s1 => if kd s1 = 41 then .ok [] (tl s1) else andT (g (.parted o) s1) fun a s2 => want 41 s2 fun s3 => .ok a s3
  | .result, s => if kd s = 48 then g .typ (tl s) else .ok [] s
  | .operands least, s => andT (g .unary s) fun a s1 => g (.ops least a 5) s1
  | .ops least left most, s =>
    if binLevelI (betw (kd s)) < least ∨ most < binLevelI (betw (kd s)) then .ok left s
    else andT (g (.operands (binLevelI (betw (kd s)) + 1)) (tl s)) fun b s2 => g (.ops least [.mk 22 (hd s).place (betw (kd s)) [] (left ++ b)] (if binLevelI (betw (kd s)) = 3 then 2 else binLevelI (betw (kd s)))) s2
  | .unary, s =>
    if kd s = 58 then andT (g .unary (tl s)) fun a s1 => mk1 21 s 1 [] a s1
    else if kd s = 64 then andT (g .unary (tl s)) fun a s1 => mk1 21 s 2 [] a s1
    else if kd s = 65 then andT (g .unary (tl s)) fun a s1 => mk1 21 s 3 [] a s1
    else g .postf s
  | .postf, s => andT (g .primary s) fun a s1 => g (.post a) s1
  | .post kid, s =>
    if kd s = 40 then andT (g (.listed .expr) s) fun b s1 => g (.post [.mk 23 (hd s).place 0 [] (kid ++ b)]) s1
    else if kd s = 42 then want 42 s fun s1 => andT (g (.operands 1) s1) fun b s2 => want 43 s2 fun s3 => g (.post [.mk 24 (hd s).place 0 [] (kid ++ b)]) s3
    else if kd s = 49 then want 49 s fun s1 => numK s1 fun n s2 => g (.post [.mk 25 (hd s).place n [] kid]) s2
    else .ok kid s
  | .primary, s =>
    if kd s = 26 then mk1 12 s 1 [] [] (tl s)
    else if kd s = 16 then mk1 12 s 0 [] [] (tl s)
    else if kd s = 40 then want 40 s fun s1 => andT (g (.parted .expr) s1) fun a s2 => want 41 s2 fun s3 => mk1 (if a.length = 1 then 14 else 15) s 0 [] a s3
    else if kd s = 42 then want 42 s fun s1 => andT (g (.parted .expr) s1) fun a s2 => want 43 s2 fun s3 => mk1 16 s 0 [] a s3
    else if kd s = 17 then want 17 s fun s1 => want 40 s1 fun s2 => andT (g (.operands 1) s2) fun a s3 => want 46 s3 fun s4 => andT (g (.operands 1) s4) fun b s5 => want 41 s5 fun s6 => mk1 17 s 0 [] (a ++ b) s6
    else if kd s = 20 then want 20 s fun s1 => want 40 s1 fun s2 => andT (g (.operands 1) s2) fun a s3 => want 41 s3 fun s4 => mk1 18 s 0 [] a s4
    else if kd s = 21 then want 21 s fun s1 => andT (g .chanT s1) fun a s2 => mk1 19 s 0 [] a s2
    else if kd s = 23 then g .prog s
    else if kd s = 2 then numK s fun n s1 => mk1 11 s n [] [] s1
    else nameK s fun n s1 => mk1 13 s 0 n [] s1
  | .prog, s => want 23 s fun s1 =>
    if kd s1 = 1 then nameK s1 fun n s2 => andT (g (.listed .param) s2) fun a s3 => andT (g .result s3) fun b s4 => andT (g .block s4) fun c s5 => mk1 20 s b.length n (a ++ (b ++ c)) s5
    else andT (g (.listed .param) s1) fun a s3 => andT (g .result s3) fun b s4 => andT (g .block s4) fun c s5 => mk1 20 s b.length [] (a ++ (b ++ c)) s5
  | .param, s => nameK s fun n s1 => want 48 s1 fun s2 => andT (g .typ s2) fun a s3 => mk1 42 s 0 n a s3
  | .block, s => want 44 s fun s1 => andT (g .stmts s1) fun a s2 => mk1 41 s 0 [] a s2
  | .stmts, s => if kd s = 45 then .ok [] (tl s) else andT (g .stmt s) fun a s1 => andT (g .stmts s1) fun b s2 => .ok (a ++ b) s2
  | .stmt, s =>
    if kd s = 28 then want 28 s fun s1 => nameK s1 fun n s2 => want 50 s2 fun s3 => andT (g (.operands 1) s3) fun a s4 => want 47 s4 fun s5 => mk1 31 s 0 n a s5
    else if kd s = 29 then want 29 s fun s1 => nameK s1 fun n s2 => want 48 s2 fun s3 => andT (g .typ s3) fun a s4 =>
      if kd s4 = 50 then want 50 s4 fun s5 => andT (g (.operands 1) s5) fun b s6 => want 47 s6 fun s7 => mk1 32 s 0 n (a ++ b) s7 else want 47 s4 fun s5 => mk1 32 s 0 n a s5
    else if kd s = 18 then g .branch s
    else if kd s = 30 then want 30 s fun s1 => andT (g (.operands 1) s1) fun a s2 => andT (g .block s2) fun b s3 => mk1 37 s 0 [] (a ++ b) s3
    else if kd s = 24 then want 24 s fun s1 => if kd s1 = 47 then want 47 s1 fun s2 => mk1 38 s 0 [] [] s2 else andT (g (.operands 1) s1) fun a s2 => want 47 s2 fun s3 => mk1 38 s 0 [] a s3
    else if kd s = 11 then want 11 s fun s1 => andT (g (.operands 1) s1) fun a s2 => want 47 s2 fun s3 => mk1 39 s 0 [] a s3
    else if kd s = 25 then want 25 s fun s1 => want 44 s1 fun s2 => andT (g .arms s2) fun a s3 => mk1 40 s 0 [] a s3
    else if kd s = 44 then g .block s
    else andT (g (.operands 1) s) fun a s1 =>
      if kd s1 = 50 then want 50 s1 fun s2 => andT (g (.operands 1) s2) fun b s3 => want 47 s3 fun s4 => mk1 33 s1 0 [] (a ++ b) s4
      else if kd s1 = 66 then want 66 s1 fun s2 => andT (g (.operands 1) s2) fun b s3 => want 47 s3 fun s4 => mk1 34 s1 0 [] (a ++ b) s4
      else want 47 s1 fun s2 => mk1 35 s 0 [] a s2
  | .branch, s => want 18 s fun s1 => andT (g (.operands 1) s1) fun a s2 => andT (g .block s2) fun b s3 =>
    if kd s3 = 15 then want 15 s3 fun s4 => if kd s4 = 18 then andT (g .branch s4) fun c s5 => mk1 36 s 0 [] (a ++ (b ++ c)) s5 else andT (g .block s4) fun c s5 => mk1 36 s 0 [] (a ++ (b ++ c)) s5
    else mk1 36 s 0 [] (a ++ b) s3
  | .arms, s => if kd s = 45 then .ok [] (tl s) else andT (g .arm s) fun a s1 => andT (g .arms s1) fun b s2 => .ok (a ++ b) s2
  | .arm, s => want 13 s fun s1 =>
    if kd s1 = 65 then want 65 s1 fun s2 => andT (g .unary s2) fun a s3 => andT (g .block s3) fun b s4 => mk1 43 s 0 [] (a ++ b) s4
    else if kd s1 = 1 ∧ kd (tl s1) = 50 then nameK s1 fun n s2 => want 50 s2 fun s3 => want 65 s3 fun s4 => andT (g .unary s4) fun a s5 => andT (g .block s5) fun b s6 => mk1 43 s 0 n (a ++ b) s6
    else andT (g (.operands 1) s1) fun a s2 => want 66 s2 fun s3 => andT (g (.operands 1) s3) fun b s4 => andT (g .block s4) fun c s5 => mk1 44 s 0 [] (a ++ (b ++ c)) s5
  | .tyn, s => want 27 s fun s1 => nameK s1 fun n s2 => want 50 s2 fun s3 => andT (g .typ s3) fun a s4 => want 47 s4 fun s5 => mk1 45 s 0 n a s5
  | .types, s => if kd s = 27 then andT (g .tyn s) fun a s1 => andT (g .types s1) fun b s2 => .ok (a ++ b) s2 else .ok [] s
  | .tops, s => if s.length ≤ 1 then .ok [] s else andT (g .stmt s) fun a s1 => andT (g .tops s1) fun b s2 => .ok (a ++ b) s2
  | .program, s => andT (g .types s) fun a s1 => andT (g .tops s1) fun b s2 => .ok [.mk 46 0 a.length [] (a ++ b)] s2
/-- THE READER -/
def pF : Nat → Rl → List PTok → Res
  | 0, _, _ => .out
  | f + 1, r, s => body (pF f) r s

/-! ### more fuel tells the same -/
def Le (a b : Res) : Prop := ∀ t s, a = .ok t s → b = .ok t s
theorem le_refl (a : Res) : Le a a := fun _ _ h => h
theorem le_out (b : Res) : Le .out b := fun _ _ h => by cases h
theorem andT_le {a b : Res} {k l : List Tr → List PTok → Res} (h : Le a b) (hk : ∀ t s, Le (k t s) (l t s)) : Le (andT a k) (andT b l) := by
  intro t s e
  match a, h, e with
  | .ok x y, h, e =>
    rw [h x y rfl]
    exact hk x y t s e
theorem want_le {c : Nat} {s : List PTok} {k l : List PTok → Res} (hk : ∀ s, Le (k s) (l s)) : Le (want c s k) (want c s l) := by
  unfold want
  split
  · exact hk _
  · exact le_refl _
theorem nameK_le {s : List PTok} {k l : List UInt8 → List PTok → Res} (hk : ∀ n s, Le (k n s) (l n s)) : Le (nameK s k) (nameK s l) := by
  unfold nameK
  split
  · exact hk _ _
  · exact le_refl _
theorem numK_le {s : List PTok} {k l : Nat → List PTok → Res} (hk : ∀ n s, Le (k n s) (l n s)) : Le (numK s k) (numK s l) := by
  unfold numK
  split
  · exact hk _ _
  · exact le_refl _
theorem ite_le2 {p : Prop} [Decidable p] {a b c d : Res} (h1 : Le a c) (h2 : Le b d) : Le (if p then a else b) (if p then c else d) := by
  split
  · exact h1
  · exact h2
theorem body_le {g h : Rl → List PTok → Res} (H : ∀ r s, Le (g r s) (h r s)) (r : Rl) (s : List PTok) : Le (body g r s) (body h r s) := by
  cases r <;> (unfold body; repeat' (first | exact le_refl _ | exact H _ _ | refine ite_le2 ?_ ?_ | refine andT_le (H _ _) (fun _ _ => ?_) | refine want_le (fun _ => ?_) | refine nameK_le (fun _ _ => ?_) | refine numK_le (fun _ _ => ?_)))
theorem pF_le : ∀ (f : Nat) (r : Rl) (s : List PTok), Le (pF f r s) (pF (f + 1) r s)
  | 0, r, s => le_out _
  | f + 1, r, s => body_le (pF_le f) r s
theorem pF_mono {f f' : Nat} (h : f ≤ f') (r : Rl) (s : List PTok) : Le (pF f r s) (pF f' r s) := by
  induction h with
  | refl => exact le_refl _
  | step _ ih => exact fun t s' e => pF_le _ r s t s' (ih t s' e)
/-- a rule, at tokens, tells trees and leaves the rest -/
def P (r : Rl) (s : List PTok) (ts : List Tr) (s' : List PTok) : Prop := ∃ f, pF f r s = .ok ts s'
theorem P_one {r : Rl} {s s1 s2 : List PTok} {a b : List Tr} (h1 : P r s a s1) (h2 : P r s b s2) : a = b ∧ s1 = s2 := by
  obtain ⟨f1, h1⟩ := h1
  obtain ⟨f2, h2⟩ := h2
  have e1 := pF_mono (Nat.le_add_right f1 f2) r s _ _ h1
  have e2 := pF_mono (Nat.le_add_left f2 f1) r s _ _ h2
  rw [e1] at e2
  cases e2
  exact ⟨rfl, rfl⟩
/-! ### a rule out of the rules below it -/
def Q (G : (Rl → List PTok → Res) → Res) (ts : List Tr) (s' : List PTok) : Prop := ∃ f, ∀ f', f ≤ f' → G (pF f') = .ok ts s'
theorem P_of {r : Rl} {s s' : List PTok} {ts : List Tr} (h : Q (fun g => body g r s) ts s') : P r s ts s' := by
  obtain ⟨f, h⟩ := h
  exact ⟨f + 1, h f (Nat.le_refl _)⟩
theorem Q_P {r : Rl} {s s' : List PTok} {ts : List Tr} (h : P r s ts s') : Q (fun g => g r s) ts s' := by
  obtain ⟨f, h⟩ := h
  exact ⟨f, fun f' hf => pF_mono hf r s _ _ h⟩
theorem Q_ok (ts : List Tr) (s : List PTok) : Q (fun _ => .ok ts s) ts s := ⟨0, fun _ _ => rfl⟩
theorem Q_mk {kind : Int} {s : List PTok} {num : Int} {name : List UInt8} {kids : List Tr} {r : List PTok} : Q (fun _ => mk1 kind s num name kids r) [.mk kind (hd s).place num name kids] r := ⟨0, fun _ _ => rfl⟩
theorem Q_and {r : Rl} {s s1 s' : List PTok} {a ts : List Tr} {K : (Rl → List PTok → Res) → List Tr → List PTok → Res} (h : P r s a s1) (hk : Q (fun g => K g a s1) ts s') : Q (fun g => andT (g r s) (K g)) ts s' := by
  obtain ⟨f1, h1⟩ := h
  obtain ⟨f2, h2⟩ := hk
  refine ⟨f1 + f2, fun f' hf => ?_⟩
  show andT (pF f' r s) (K (pF f')) = _
  rw [pF_mono (show f1 ≤ f' by omega) r s _ _ h1]
  exact h2 f' (by omega)
theorem Q_want {c : Nat} {t : PTok} {s s' : List PTok} {ts : List Tr} {K : (Rl → List PTok → Res) → List PTok → Res} (ht : t.kind = c) (hk : Q (fun g => K g s) ts s') : Q (fun g => want c (t :: s) (K g)) ts s' := by
  obtain ⟨f, h⟩ := hk
  refine ⟨f, fun f' hf => ?_⟩
  have e : kd (t :: s) = c := ht
  show want c (t :: s) (K (pF f')) = _
  unfold want
  rw [if_pos e]
  exact h f' hf
theorem Q_name {t : PTok} {s s' : List PTok} {ts : List Tr} {K : (Rl → List PTok → Res) → List UInt8 → List PTok → Res} (ht : t.kind = 1) (hk : Q (fun g => K g t.name s) ts s') : Q (fun g => nameK (t :: s) (K g)) ts s' := by
  obtain ⟨f, h⟩ := hk
  refine ⟨f, fun f' hf => ?_⟩
  have e : kd (t :: s) = 1 := ht
  show nameK (t :: s) (K (pF f')) = _
  unfold nameK
  rw [if_pos e]
  exact h f' hf
theorem Q_num {t : PTok} {s s' : List PTok} {ts : List Tr} {K : (Rl → List PTok → Res) → Nat → List PTok → Res} (ht : t.kind = 2) (hk : Q (fun g => K g t.num s) ts s') : Q (fun g => numK (t :: s) (K g)) ts s' := by
  obtain ⟨f, h⟩ := hk
  refine ⟨f, fun f' hf => ?_⟩
  have e : kd (t :: s) = 2 := ht
  show numK (t :: s) (K (pF f')) = _
  unfold numK
  rw [if_pos e]
  exact h f' hf
theorem Q_yes {p : Prop} [Decidable p] {s' : List PTok} {ts : List Tr} {A B : (Rl → List PTok → Res) → Res} (hp : p) (h : Q A ts s') : Q (fun g => if p then A g else B g) ts s' := by
  obtain ⟨f, h⟩ := h
  refine ⟨f, fun f' hf => ?_⟩
  show (if p then A (pF f') else B (pF f')) = _
  rw [if_pos hp]
  exact h f' hf
theorem Q_no {p : Prop} [Decidable p] {s' : List PTok} {ts : List Tr} {A B : (Rl → List PTok → Res) → Res} (hp : ¬ p) (h : Q B ts s') : Q (fun g => if p then A g else B g) ts s' := by
  obtain ⟨f, h⟩ := h
  refine ⟨f, fun f' hf => ?_⟩
  show (if p then A (pF f') else B (pF f')) = _
  rw [if_neg hp]
  exact h f' hf
end Go.Proofs.YtecodpdfckjalaaGreatDoor
namespace Go.Proofs.YtecodpdfckjalaaGreatDoor
set_option linter.unusedVariables false
set_option linter.unusedSimpArgs false

/-! ### a tree as a list of nodes -/
mutual
def Tr.size : Tr → Nat
  | .mk _ _ _ _ ks => sizes ks + 1
def sizes : List Tr → Nat
  | [] => 0
  | t :: r => t.size + sizes r
end
def ends : List Tr → Nat → List Int
  | [], _ => []
  | t :: r, o => ((o + t.size - 1 : Nat) : Int) :: ends r (o + t.size)
mutual
def flat : Tr → Nat → List Nd
  | .mk k p n nm ks, o => flats ks o ++ [⟨k, p, ends ks o, ⟨nm.toArray⟩, n⟩]
def flats : List Tr → Nat → List Nd
  | [], _ => []
  | t :: r, o => flat t o ++ flats r (o + t.size)
end
mutual
theorem flat_len : ∀ (t : Tr) (o : Nat), (flat t o).length = t.size
  | .mk k p n nm ks, o => by
    rw [flat, Tr.size, List.length_append, flats_len ks o]
    rfl
theorem flats_len : ∀ (ts : List Tr) (o : Nat), (flats ts o).length = sizes ts
  | [], o => rfl
  | t :: r, o => by
    rw [flats, sizes, List.length_append, flat_len t o, flats_len r]
end
theorem size_pos (t : Tr) : 1 ≤ t.size := by
  cases t
  rw [Tr.size]
  omega
theorem sizes_append : ∀ (a b : List Tr), sizes (a ++ b) = sizes a + sizes b
  | [], b => by simp [sizes]
  | t :: r, b => by
    rw [List.cons_append, sizes, sizes, sizes_append r b]
    omega
theorem flats_snoc (t : Tr) : ∀ (a : List Tr) (o : Nat), flats (a ++ [t]) o = flats a o ++ flat t (o + sizes a)
  | [], o => by simp [flats, sizes]
  | x :: r, o => by
    rw [List.cons_append, flats, flats, flats_snoc t r, sizes, List.append_assoc, Nat.add_assoc]
theorem ends_snoc (t : Tr) : ∀ (a : List Tr) (o : Nat), ends (a ++ [t]) o = ends a o ++ [((o + sizes a + t.size - 1 : Nat) : Int)]
  | [], o => by simp [ends, sizes]
  | x :: r, o => by
    rw [List.cons_append, ends, ends, ends_snoc t r, sizes, List.cons_append, Nat.add_assoc o]
end Go.Proofs.YtecodpdfckjalaaGreatDoor
namespace Go.Proofs.YtecodpdfckjalaaGreatDoor
open Go.RowKit
set_option linter.unusedVariables false
set_option linter.unusedSimpArgs false

theorem heapLt {w : World} {x : Nat} {o : Obj} (h : w.heap[x]? = some o) : x < w.heap.size := by
  rcases Nat.lt_or_ge x w.heap.size with hlt | hge
  · exact hlt
  · rw [Array.getElem?_eq_none hge] at h; cases h
/-! ### the reader in memory -/
def rdO (srcV tokV : Value) (i : Nat) (nv : Value) : Obj := .cells #[srcV, tokV, .int .i64 i, nv] 74 (0, 0)
def ndC (n : Nd) (k : Option Addr × Nat) : List Value := [.int .i64 n.kind, .int .i64 n.pos, .slice k.1 n.kids.length k.2, .string n.name, .int .i64 n.num]
def ndsC : List Nd → List (Option Addr × Nat) → List Value
  | n :: r, k :: q => ndC n k ++ ndsC r q
  | _, _ => []
def intsC (xs : List Int) : List Value := xs.map fun x => Value.int .i64 x
/-- a row of numbers of one's own -/
def IntsO (W : World) (rb : Nat) (v : Value) (xs : List Int) : Prop := W.ownsRow (rb + 1) 3 1 v xs.length (intsC xs)
structure NodesO (U : Nat → Prop) (W : World) (rb : Nat) (nv : Value) (ns : List Nd) : Prop where
  ex : ∃ ks : List (Option Addr × Nat), ks.length = ns.length ∧ W.ownsRow (rb + 1) 44 5 nv ns.length (ndsC ns ks) ∧ ∀ j (h : j < ns.length) (h' : j < ks.length), IntsO W rb (.slice ks[j].1 ns[j].kids.length ks[j].2) ns[j].kids ∧ ∀ g, ks[j].1 = some ⟨g, 0, none⟩ → ¬ U g
/-- the block of the reader's own row of nodes -/
def ownN (W : World) (rb : Nat) : Option Nat :=
  match W.heap[rb]? with
  | some (.cells c _ _) => (c.getD 3 undef).ownBlock
  | _ => none
theorem ownN_rd {W : World} {rb : Nat} {srcV tokV nv : Value} {i : Nat} (h : W.heap[rb]? = some (rdO srcV tokV i nv)) : ownN W rb = nv.ownBlock := by
  unfold ownN
  rw [h]
  rfl
/-- what is neither the reader nor its row of nodes stays -/
structure KeepR (rb : Nat) (W W' : World) : Prop where
  size : W.heap.size ≤ W'.heap.size
  same : ∀ x, x < W.heap.size → rb < x → ownN W rb ≠ some x → W'.heap[x]? = W.heap[x]?
  own : ownN W' rb = ownN W rb ∨ ∃ g, ownN W' rb = some g ∧ W.heap.size ≤ g
theorem KeepR.refl (rb : Nat) (W : World) : KeepR rb W W := ⟨Nat.le_refl _, fun _ _ _ _ => rfl, .inl rfl⟩
theorem KeepR.trans {rb : Nat} {W W1 W2 : World} (h1 : KeepR rb W W1) (h2 : KeepR rb W1 W2) : KeepR rb W W2 := by
  have hz := h1.size
  refine ⟨Nat.le_trans hz h2.size, fun x hx hr ho => ?_, ?_⟩
  · rw [h2.same x (by omega) hr ?_, h1.same x hx hr ho]
    rcases h1.own with e | ⟨g, e, hg⟩
    · rw [e]; exact ho
    · rw [e]
      intro e2
      simp only [Option.some.injEq] at e2
      omega
  · rcases h2.own with e | ⟨g, e, hg⟩
    · rw [e]; exact h1.own
    · exact .inr ⟨g, e, by omega⟩
theorem KeepR.heap {rb : Nat} {W W' : World} (h : W'.heap = W.heap) : KeepR rb W W' := ⟨by rw [h]; exact Nat.le_refl _, fun x _ _ _ => by rw [h], .inl (by unfold ownN; rw [h])⟩
theorem KeepR.ext {rb : Nat} {W W' : World} (hr : rb < W.heap.size) (hb : Below W.heap.size W W') : KeepR rb W W' := ⟨hb.size, fun x hx _ _ => hb.block x hx, .inl (by unfold ownN; rw [hb.block rb hr])⟩
theorem KeepR.alloc {rb : Nat} {W : World} (hr : rb < W.heap.size) (o : Obj) : KeepR rb W (W.alloc o) := KeepR.ext hr (below1 W o)
theorem owns_own {W : World} {B : Nat} {e : TypeId} {s : Nat} {v : Value} {n : Nat} {cs : List Value} (h : W.ownsRow B e s v n cs) {x : Nat} (hx : v.ownBlock = some x) : ∃ cur, W.heap[x]? = some (.cells cur e (0, 0)) := by
  rcases h.2 with ⟨h2, _⟩ | ⟨g, cap, cur, hv, hg, hh, hr⟩
  · rw [h2] at hx
    simp [Value.ownBlock] at hx
  · rw [hv] at hx
    simp [Value.ownBlock] at hx
    subst hx
    exact ⟨cur, hh⟩
/-- the reader's state: it stands at the token i, and has made the nodes ns -/
structure RS (w0 : World) (rb : Nat) (srcV tokV : Value) (U : Nat → Prop) (W : World) (i : Nat) (ns : List Nd) : Prop where
  rd : ∃ nv, W.heap[rb]? = some (rdO srcV tokV i nv) ∧ NodesO U W rb nv ns
  bel : Below rb w0 W
theorem RS.lt {w0 : World} {rb : Nat} {srcV tokV : Value} {U : Nat → Prop} {W : World} {i : Nat} {ns : List Nd} (h : RS w0 rb srcV tokV U W i ns) : rb < W.heap.size := by
  obtain ⟨nv, h1, _⟩ := h.rd
  exact heapLt h1
/-- the reader's row is of nodes -/
theorem RS.own {w0 : World} {rb : Nat} {srcV tokV : Value} {U : Nat → Prop} {W : World} {i : Nat} {ns : List Nd} (h : RS w0 rb srcV tokV U W i ns) {x : Nat} (hx : ownN W rb = some x) : ∃ cur, W.heap[x]? = some (.cells cur 44 (0, 0)) := by
  obtain ⟨nv, h1, h2⟩ := h.rd
  obtain ⟨ks, _, k2, _⟩ := h2.ex
  rw [ownN_rd h1] at hx
  exact owns_own k2 hx
theorem RS.ints {w0 : World} {rb : Nat} {srcV tokV : Value} {U : Nat → Prop} {W W' : World} {i : Nat} {ns : List Nd} (hS : RS w0 rb srcV tokV U W i ns) {v : Value} {xs : List Int} (h : IntsO W rb v xs) (hk : KeepR rb W W') : IntsO W' rb v xs := by
  obtain ⟨h1, h2⟩ := h
  refine ⟨h1, ?_⟩
  rcases h2 with h2 | ⟨g, cap, cur, hv, hg, hh, hr⟩
  · exact .inl h2
  · refine .inr ⟨g, cap, cur, hv, hg, ?_, hr⟩
    rw [hk.same g (heapLt hh) (by omega) (fun e => ?_)]
    · exact hh
    · obtain ⟨cur2, h3⟩ := hS.own e
      rw [hh] at h3
      simp only [Option.some.injEq, Obj.cells.injEq] at h3
      exact absurd h3.2.1 (by decide)
theorem owns_bel {W W' : World} {B : Nat} {e : TypeId} {s : Nat} {v : Value} {n : Nat} {cs : List Value} (h : W.ownsRow B e s v n cs) (hb : Below W.heap.size W W') : W'.ownsRow B e s v n cs := by
  obtain ⟨h1, h2⟩ := h
  refine ⟨h1, ?_⟩
  rcases h2 with h2 | ⟨g, cap, cur, hv, hg, hh, hr⟩
  · exact .inl h2
  · exact .inr ⟨g, cap, cur, hv, hg, by rw [hb.block g (heapLt hh)]; exact hh, hr⟩
/-- new blocks alone: the reader is as it was -/
theorem RS.ext {w0 : World} {rb : Nat} {srcV tokV : Value} {U : Nat → Prop} {W W' : World} {i : Nat} {ns : List Nd} (h : RS w0 rb srcV tokV U W i ns) (hb : Below W.heap.size W W') : RS w0 rb srcV tokV U W' i ns := by
  obtain ⟨nv, h1, h2⟩ := h.rd
  have hlt := heapLt h1
  obtain ⟨ks, k1, k2, k3⟩ := h2.ex
  exact ⟨⟨nv, by rw [hb.block rb hlt]; exact h1, ⟨ks, k1, owns_bel k2 hb, fun j hj hj' => ⟨owns_bel (k3 j hj hj').1 hb, (k3 j hj hj').2⟩⟩⟩, h.bel.trans (hb.mono (by omega))⟩
theorem RS.drewN {w0 : World} {rb : Nat} {srcV tokV : Value} {U : Nat → Prop} {W : World} {i : Nat} {ns : List Nd} (h : RS w0 rb srcV tokV U W i ns) (k : Nat) : RS w0 rb srcV tokV U (W.drewN k) i ns :=
  h.ext (below_drewN (Below.refl _ _) k)
/-- what stays: the source, the tokens, the tables -/
structure RT (w0 : World) (rb : Nat) (srcV tokV : Value) (TL : List Tok) (xs : List UInt8) : Prop where
  toks : ∃ tb cap, tokV = .slice (some ⟨tb, 0, none⟩) TL.length cap ∧ tb < rb ∧ TL.length ≤ cap ∧ Toks w0 tb TL
  laid : Laid w0
  low : 6 < rb
  small : TL.length ≤ 65537
  src : 0 < xs.length → ∃ b o cap, srcV = .slice (some ⟨b, o, none⟩) xs.length cap ∧ b < rb ∧ xs.length ≤ cap ∧ Src w0 b o xs
  len : xs.length ≤ 65536
  inb : ∀ i (h : i < TL.length), TL[i].kind ≠ 0 → 1 ≤ TL[i].len ∧ TL[i].place + TL[i].len ≤ xs.length
theorem rd_cells {W : World} {rb : Nat} {srcV tokV nv : Value} {i : Nat} (h : W.heap[rb]? = some (rdO srcV tokV i nv)) : W.cell? ⟨rb, 0, none⟩ = some srcV ∧ W.cell? ⟨rb, 1, none⟩ = some tokV ∧ W.cell? ⟨rb, 2, none⟩ = some (.int .i64 i) ∧ W.cell? ⟨rb, 3, none⟩ = some nv ∧ rb < W.heap.size := by
  refine ⟨?_, ?_, ?_, ?_, heapLt h⟩ <;> simp [World.cell?, h, rdO]
theorem RT.tok {w0 : World} {rb : Nat} {srcV tokV : Value} {TL : List Tok} {xs : List UInt8} (h : RT w0 rb srcV tokV TL xs) {W : World} (hb : Below rb w0 W) {i : Nat} (hi : i < TL.length) :
    ∃ tb cap, tokV = .slice (some ⟨tb, 0, none⟩) TL.length cap ∧ tb < rb ∧ TL.length ≤ cap ∧ W.cell? ⟨tb, i * 4, none⟩ = some (.int .i64 TL[i].kind) ∧ W.cell? ⟨tb, i * 4 + 1, none⟩ = some (.int .i64 TL[i].place) ∧ W.cell? ⟨tb, i * 4 + 2, none⟩ = some (.int .i64 TL[i].len) ∧ W.cell? ⟨tb, i * 4 + 3, none⟩ = some (.int .i64 TL[i].num) := by
  obtain ⟨tb, cap, e, h1, h2, h3⟩ := h.toks
  obtain ⟨q0, q1, q2, q3⟩ := h3.at_ i hi
  have hc : ∀ k, W.cell? ⟨tb, k, none⟩ = w0.cell? ⟨tb, k, none⟩ := fun k => hb.cell (p := ⟨tb, k, none⟩) h1
  exact ⟨tb, cap, e, h1, h2, by rw [hc]; exact q0, by rw [hc]; exact q1, by rw [hc]; exact q2, by rw [hc]; exact q3⟩
theorem laid_bel {w0 W : World} {rb : Nat} (h : Laid w0) (hr : 6 < rb) (hb : Below rb w0 W) : Laid W := by
  have hs := h.size
  have hz := hb.size
  have hc : ∀ g k, g < 7 → W.cell? ⟨g, k, none⟩ = w0.cell? ⟨g, k, none⟩ := fun g k hg => hb.cell (p := ⟨g, k, none⟩) (by show g < rb; omega)
  refine ⟨fun i hi => ?_, fun i hi => ?_, ?_, by omega⟩
  · rw [hc _ _ (by decide)]; exact h.words i hi
  · rw [hc _ _ (by decide)]; exact h.signs i hi
  · obtain ⟨te, pe, hh⟩ := h.range
    exact ⟨te, pe, by rw [hc _ _ (by decide)]; exact hh⟩

set_option maxRecDepth 100000 in
set_option maxHeartbeats 1000000 in
theorem rnext_any {w0 : World} {rb : Nat} {srcV tokV : Value} {U : Nat → Prop} {TL : List Tok} {xs : List UInt8} (hT : RT w0 rb srcV tokV TL xs) {W : World} {i : Nat} {ns : List Nd} (hS : RS w0 rb srcV tokV U W i ns) (hi : i < TL.length) :
    Calls Tryz.prog 84 #[.pointer (some ⟨rb, 0, none⟩)] W fun e W' => e = .returned (Go.Proofs.YtecodpdfckjalaaGreatDoor.tokV TL[i]) ∧ Below W.heap.size W W' := by
  obtain ⟨nv, hr, _⟩ := hS.rd
  obtain ⟨c0, c1, c2, c3, hlt⟩ := rd_cells hr
  obtain ⟨tb, cap, rfl, h1, h2, q0, q1, q2, q3⟩ := hT.tok hS.bel hi
  have hsm := hT.small
  have htb : tb < W.heap.size := by omega
  generalize TL[i] = t at *
  generalize TL.length = n at *
  clear hS hT hr
  go_enter Tryz.func84, Tryz.ntmps84
  go_wp2
  go_region
  all_goals
    go_wp2
    refine bodyPost_ret (v := Go.Proofs.YtecodpdfckjalaaGreatDoor.tokV t) (by simp [results, Tryz.results84, go_sem, Go.Proofs.YtecodpdfckjalaaGreatDoor.tokV]) rfl ⟨rfl, ?_⟩
    exact ((Below.refl _ _).alloc (Nat.le_refl _) _).drew
end Go.Proofs.YtecodpdfckjalaaGreatDoor
namespace Go.Proofs.YtecodpdfckjalaaGreatDoor
open Go.RowKit
set_option linter.unusedVariables false
set_option linter.unusedSimpArgs false

variable {w0 : World} {rb : Nat} {srcV tokV : Value} {TL : List Tok} {xs : List UInt8} {U : Nat → Prop}

theorem tok_f0 (W : World) (a b c d : Value) : (Instr.field 62 (.agg #[a, b, c, d]) 0).run Tryz.prog W = .ok a W := by
  simp [Instr.field, go_sem, Tryz.underlying62, asAgg]
theorem tok_f1 (W : World) (a b c d : Value) : (Instr.field 62 (.agg #[a, b, c, d]) 1).run Tryz.prog W = .ok b W := by
  simp [Instr.field, go_sem, Tryz.underlying62, asAgg]
theorem tok_f2 (W : World) (a b c d : Value) : (Instr.field 62 (.agg #[a, b, c, d]) 2).run Tryz.prog W = .ok c W := by
  simp [Instr.field, go_sem, Tryz.underlying62, asAgg]
theorem tok_f3 (W : World) (a b c d : Value) : (Instr.field 62 (.agg #[a, b, c, d]) 3).run Tryz.prog W = .ok d W := by
  simp [Instr.field, go_sem, Tryz.underlying62, asAgg]
/-- all but the reader, of what was there, is as it was -/
theorem RS.upd {W W' : World} {i i' : Nat} {ns : List Nd} (h : RS w0 rb srcV tokV U W i ns) (hz : W.heap.size ≤ W'.heap.size) (hx : ∀ x, x < W.heap.size → x ≠ rb → W'.heap[x]? = W.heap[x]?) (hr : ∀ nv, W.heap[rb]? = some (rdO srcV tokV i nv) → W'.heap[rb]? = some (rdO srcV tokV i' nv)) (hb : Below rb w0 W') :
    RS w0 rb srcV tokV U W' i' ns ∧ KeepR rb W W' := by
  obtain ⟨nv, h1, h2⟩ := h.rd
  have hk : KeepR rb W W' := ⟨hz, fun x hx1 hxr _ => hx x hx1 (by omega), .inl (by rw [ownN_rd (hr nv h1), ownN_rd h1])⟩
  obtain ⟨ks, k1, k2, k3⟩ := h2.ex
  refine ⟨⟨⟨nv, hr nv h1, ⟨ks, k1, ?_, fun j hj hj' => ⟨h.ints (k3 j hj hj').1 hk, (k3 j hj hj').2⟩⟩⟩, hb⟩, hk⟩
  obtain ⟨q1, q2⟩ := k2
  refine ⟨q1, ?_⟩
  rcases q2 with q2 | ⟨g, cap, cur, hv, hg, hh, hr⟩
  · exact .inl q2
  · exact .inr ⟨g, cap, cur, hv, hg, by rw [hx g (heapLt hh) (by omega)]; exact hh, hr⟩
/-- the next token passed over -/
def stepW (rb : Nat) (W : World) (i : Nat) : World := W.setCell ⟨rb, 2, none⟩ (.int .i64 ((i + 1 : Nat) : Int))
theorem RS.step {W : World} {i : Nat} {ns : List Nd} (h : RS w0 rb srcV tokV U W i ns) : RS w0 rb srcV tokV U (stepW rb W i) (i + 1) ns ∧ KeepR rb W (stepW rb W i) := by
  refine h.upd (by simp [stepW]) (fun x hx hne => ?_) (fun nv hr => ?_) (Below.setCell (p := ⟨rb, 2, none⟩) h.bel (Nat.le_refl _) _)
  · unfold stepW
    exact heap_setCell_other W ⟨rb, 2, none⟩ x _ (by show x ≠ rb; omega)
  · unfold stepW
    rw [heap_setCell_same W rb 2 _ 74 _ hr]
    rfl

set_option maxRecDepth 100000 in
set_option maxHeartbeats 1000000 in
theorem rtext_any (hT : RT w0 rb srcV tokV TL xs) {W : World} {i : Nat} {ns : List Nd} (hS : RS w0 rb srcV tokV U W i ns) (hi : i < TL.length) :
    Calls Tryz.prog 66 #[.pointer (some ⟨rb, 0, none⟩)] W fun e W' => e = .returned (.string ⟨(textK (TL[i].kind : Nat)).toArray⟩) ∧ Below W.heap.size W W' := by
  have HN : Bx _ := ⟨rnext_any hT hS hi⟩
  have HL : Bx (∀ W', Below W.heap.size W W' → Calls Tryz.prog 83 #[.int .i64 (TL[i].kind : Nat)] W' fun e w' => e = .returned (.string ⟨(textK (TL[i].kind : Nat)).toArray⟩) ∧ W' = w') := ⟨fun W' hb => by
    have hl := laid_bel hT.laid hT.low (hS.ext hb).bel
    exact Text_any _ W' hl.words hl.signs⟩
  unfold Go.Proofs.YtecodpdfckjalaaGreatDoor.tokV at HN
  generalize textK (TL[i].kind : Nat) = tx at *
  generalize TL[i] = t at *
  have hf0 := tok_f0
  clear hS hT
  go_enter Tryz.func66, Tryz.ntmps66
  go_wp2_with (first
    | (go_at_call 84; refine Calls.mono HN.out ?_; rintro e W1 ⟨rfl, b1⟩)
    | (go_at_call 83; refine Calls.mono (HL.out _ b1) ?_; rintro e W2 ⟨rfl, rfl⟩))
  go_ret
  exact ⟨rfl, b1⟩

set_option maxRecDepth 100000 in
set_option maxHeartbeats 1000000 in
theorem ended_any (hT : RT w0 rb srcV tokV TL xs) {W : World} {i : Nat} {ns : List Nd} (hS : RS w0 rb srcV tokV U W i ns) (hi : i < TL.length) :
    Calls Tryz.prog 68 #[.pointer (some ⟨rb, 0, none⟩)] W fun e W' => e = .returned (.bool (decide (i + 1 = TL.length))) ∧ Below W.heap.size W W' := by
  obtain ⟨nv, hr, _⟩ := hS.rd
  obtain ⟨c0, c1, c2, c3, hlt⟩ := rd_cells hr
  obtain ⟨tb, cap, rfl, h1, h2, hx⟩ := hT.tok hS.bel hi
  have hsm := hT.small
  clear hx
  have he : decide (i + 1 = TL.length) = ((i : Int) == (TL.length : Int) - 1) := by
    by_cases h : i + 1 = TL.length
    · rw [decide_eq_true h]; symm; rw [beq_iff_eq]; omega
    · rw [decide_eq_false h]; symm; rw [beq_eq_false_iff_ne]; omega
  rw [he]
  clear hS hT hr he
  generalize TL.length = n at *
  go_enter Tryz.func68, Tryz.ntmps68
  go_wp2
  go_quiet (fail)
  go_wp2
  go_ret
  exact ⟨rfl, below_drewN (Below.refl _ _) _⟩

theorem beq_bytes {x : List UInt8} {s : ByteArray} : ((⟨x.toArray⟩ : ByteArray).toList == s.toList) = decide (x = s.data.toList) := by
  rw [ByteArray.toList_eq, ByteArray.toList_eq]
  by_cases h : x = s.data.toList
  · rw [decide_eq_true h, beq_iff_eq, h]
  · rw [decide_eq_false h, beq_eq_false_iff_ne]
    exact h
set_option maxRecDepth 100000 in
set_option maxHeartbeats 1000000 in
theorem skip_no (hT : RT w0 rb srcV tokV TL xs) {W : World} {i : Nat} {ns : List Nd} (hS : RS w0 rb srcV tokV U W i ns) (hi : i < TL.length) (s : ByteArray) (hs : ¬ textK (TL[i].kind : Nat) = s.data.toList) :
    Calls Tryz.prog 102 #[.pointer (some ⟨rb, 0, none⟩), .string s] W fun e W' => e = .returned (.bool false) ∧ Below W.heap.size W W' := by
  have HN : Bx _ := ⟨rtext_any hT hS hi⟩
  have hb : ((⟨(textK (TL[i].kind : Nat)).toArray⟩ : ByteArray).toList == s.toList) = false := by rw [beq_bytes]; exact decide_eq_false hs
  generalize (⟨(textK (TL[i].kind : Nat)).toArray⟩ : ByteArray) = tx at *
  clear hS hT hs
  go_enter Tryz.func102, Tryz.ntmps102
  go_wp2_with (first
    | (go_at_call 66; refine Calls.mono HN.out ?_; rintro e W1 ⟨rfl, b1⟩))
  go_ret
  exact ⟨rfl, b1⟩
set_option maxRecDepth 100000 in
set_option maxHeartbeats 1000000 in
theorem skip_yes (hT : RT w0 rb srcV tokV TL xs) {W : World} {i : Nat} {ns : List Nd} (hS : RS w0 rb srcV tokV U W i ns) (hi : i < TL.length) (s : ByteArray) (hs : textK (TL[i].kind : Nat) = s.data.toList) :
    Calls Tryz.prog 102 #[.pointer (some ⟨rb, 0, none⟩), .string s] W fun e W' => e = .returned (.bool true) ∧ RS w0 rb srcV tokV U W' (i + 1) ns ∧ KeepR rb W W' := by
  have HN : Bx _ := ⟨rtext_any hT hS hi⟩
  have hb : ((⟨(textK (TL[i].kind : Nat)).toArray⟩ : ByteArray).toList == s.toList) = true := by rw [beq_bytes]; exact decide_eq_true hs
  have HC : Bx (∀ W1, Below W.heap.size W W1 → ∃ nv, W1.heap[rb]? = some (rdO srcV tokV i nv)) := ⟨fun W1 b => by
    obtain ⟨nv, h, _⟩ := (hS.ext b).rd
    exact ⟨nv, h⟩⟩
  have HE : Bx (∀ W1, Below W.heap.size W W1 → RS w0 rb srcV tokV U (stepW rb W1 i) (i + 1) ns ∧ KeepR rb W (stepW rb W1 i)) := ⟨fun W1 b => by
    obtain ⟨h1, h2⟩ := (hS.ext b).step
    exact ⟨h1, (KeepR.ext hS.lt b).trans h2⟩⟩
  have hsm := hT.small
  generalize (⟨(textK (TL[i].kind : Nat)).toArray⟩ : ByteArray) = tx at *
  clear hS hT hs
  generalize TL.length = n at *
  go_enter Tryz.func102, Tryz.ntmps102
  go_wp2_with (first
    | (go_at_call 66; refine Calls.mono HN.out ?_; rintro e W1 ⟨rfl, b1⟩; obtain ⟨nv, hr⟩ := HC.out W1 b1; obtain ⟨c0, c1, c2, c3, hlt⟩ := rd_cells hr; have hfz : W1.frozen? ⟨rb, 2, none⟩ = false := (by simp [World.frozen?, hr, rdO]); clear hr))
  go_ret
  exact ⟨rfl, HE.out _ b1⟩
end Go.Proofs.YtecodpdfckjalaaGreatDoor
namespace Go.Proofs.YtecodpdfckjalaaGreatDoor
open Go.RowKit
set_option linter.unusedVariables false
set_option linter.unusedSimpArgs false

variable {w0 : World} {rb : Nat} {srcV tokV : Value} {TL : List Tok} {xs : List UInt8} {U : Nat → Prop}

/-- how a rule ends that doesn't find its token -/
def faultP (p : Nat) : Ending := .panicked [{ v := .iface 30 (.agg #[.int .i64 p, .int .i64 30]), recovered := false }]
set_option maxRecDepth 100000 in
set_option maxHeartbeats 1000000 in
theorem refuse_any (hT : RT w0 rb srcV tokV TL xs) {W : World} {i : Nat} {ns : List Nd} (hS : RS w0 rb srcV tokV U W i ns) (hi : i < TL.length) :
    Calls Tryz.prog 103 #[.pointer (some ⟨rb, 0, none⟩)] W fun e W' => e = faultP TL[i].place ∧ Below rb w0 W' := by
  have HN : Bx _ := ⟨rnext_any hT hS hi⟩
  have HE : Bx (∀ W1, Below W.heap.size W W1 → Below rb w0 W1) := ⟨fun W1 b => (hS.ext b).bel⟩
  unfold Go.Proofs.YtecodpdfckjalaaGreatDoor.tokV at HN
  have hf1 := tok_f1
  generalize TL[i] = t at *
  clear hS hT
  go_enter Tryz.func103, Tryz.ntmps103
  go_wp2_with (first
    | (go_at_call 84; refine Calls.mono HN.out ?_; rintro e W1 ⟨rfl, b1⟩))
  exact ⟨rfl, rfl, HE.out _ b1⟩
set_option maxRecDepth 100000 in
set_option maxHeartbeats 1000000 in
theorem want_yes (hT : RT w0 rb srcV tokV TL xs) {W : World} {i : Nat} {ns : List Nd} (hS : RS w0 rb srcV tokV U W i ns) (hi : i < TL.length) (s : ByteArray) (hs : textK (TL[i].kind : Nat) = s.data.toList) :
    Calls Tryz.prog 85 #[.pointer (some ⟨rb, 0, none⟩), .string s] W fun e W' => e = .returned (.int .i64 TL[i].place) ∧ RS w0 rb srcV tokV U W' (i + 1) ns ∧ KeepR rb W W' := by
  have HN : Bx _ := ⟨rnext_any hT hS hi⟩
  have HK : Bx (∀ W1, Below W.heap.size W W1 → _) := ⟨fun W1 b => skip_yes hT (hS.ext b) hi s hs⟩
  have hrW := hS.lt
  unfold Go.Proofs.YtecodpdfckjalaaGreatDoor.tokV at HN
  have hf1 := tok_f1
  generalize TL[i] = t at *
  clear hS hT hs
  go_enter Tryz.func85, Tryz.ntmps85
  go_wp2_with (first
    | (go_at_call 84; refine Calls.mono HN.out ?_; rintro e W1 ⟨rfl, b1⟩)
    | (go_at_call 102; refine Calls.mono (HK.out _ b1) ?_; rintro e W2 ⟨rfl, q1, q2⟩))
  go_ret
  exact ⟨rfl, q1, (KeepR.ext hrW b1).trans q2⟩
set_option maxRecDepth 100000 in
set_option maxHeartbeats 1000000 in
theorem want_no (hT : RT w0 rb srcV tokV TL xs) {W : World} {i : Nat} {ns : List Nd} (hS : RS w0 rb srcV tokV U W i ns) (hi : i < TL.length) (s : ByteArray) (hs : ¬ textK (TL[i].kind : Nat) = s.data.toList) :
    Calls Tryz.prog 85 #[.pointer (some ⟨rb, 0, none⟩), .string s] W fun e W' => e = faultP TL[i].place ∧ Below rb w0 W' := by
  have HN : Bx _ := ⟨rnext_any hT hS hi⟩
  have HK : Bx (∀ W1, Below W.heap.size W W1 → _) := ⟨fun W1 b => skip_no hT (hS.ext b) hi s hs⟩
  have HR : Bx (∀ W1, Below W.heap.size W W1 → _) := ⟨fun W1 b => refuse_any hT (hS.ext b) hi⟩
  unfold Go.Proofs.YtecodpdfckjalaaGreatDoor.tokV at HN
  have hf1 := tok_f1
  generalize TL[i] = t at *
  clear hS hT hs
  go_enter Tryz.func85, Tryz.ntmps85
  go_wp2_with (first
    | (go_at_call 84; refine Calls.mono HN.out ?_; rintro e W1 ⟨rfl, b1⟩)
    | (go_at_call 102; refine Calls.mono (HK.out _ b1) ?_; rintro e W2 ⟨rfl, b2⟩; have b3 := b1.trans (b2.mono b1.size))
    | (go_at_call 103; refine Calls.mono (HR.out _ b3) ?_; rintro e W3 ⟨rfl, b4⟩; unfold faultP))
  exact ⟨rfl, rfl, b4⟩
end Go.Proofs.YtecodpdfckjalaaGreatDoor
namespace Go.Proofs.YtecodpdfckjalaaGreatDoor
open Go.RowKit
set_option linter.unusedVariables false
set_option linter.unusedSimpArgs false

variable {w0 : World} {rb : Nat} {srcV tokV : Value} {TL : List Tok} {xs : List UInt8} {U : Nat → Prop}

/-- the tokens from i on, as the plain reader sees them -/
def ptok (xs : List UInt8) (t : Tok) : PTok := ⟨t.kind, t.place, t.num, cut xs t.place (t.place + t.len)⟩
def pts (xs : List UInt8) (TL : List Tok) (i : Nat) : List PTok := (TL.drop i).map (ptok xs)
theorem pts_cons {i : Nat} (hi : i < TL.length) : pts xs TL i = ptok xs TL[i] :: pts xs TL (i + 1) := by
  unfold pts
  rw [List.drop_eq_getElem_cons hi, List.map_cons]
theorem pts_kd {i : Nat} (hi : i < TL.length) : kd (pts xs TL i) = TL[i].kind := by rw [pts_cons hi]; rfl
theorem pts_tl {i : Nat} (hi : i < TL.length) : tl (pts xs TL i) = pts xs TL (i + 1) := by rw [pts_cons hi]; rfl
theorem pts_hd {i : Nat} (hi : i < TL.length) : hd (pts xs TL i) = ptok xs TL[i] := by rw [pts_cons hi]; rfl
theorem pts_inj {i j : Nat} (hi : i ≤ TL.length) (hj : j ≤ TL.length) (h : pts xs TL i = pts xs TL j) : i = j := by
  have := congrArg List.length h
  unfold pts at this
  simp at this
  omega
/-- the kinds are the scanner's, and the last one is the end's -/
structure Kinds (TL : List Tok) : Prop where
  ok : ∀ i (h : i < TL.length), TL[i].kind = 0 ∨ TL[i].kind = 1 ∨ TL[i].kind = 2 ∨ (10 ≤ TL[i].kind ∧ TL[i].kind < 31) ∨ (40 ≤ TL[i].kind ∧ TL[i].kind < 67)
  last : ∀ i (h : i < TL.length), TL[i].kind = 0 ↔ i + 1 = TL.length
/-- a kind by its text -/
theorem text_is {k c : Nat} (hk : k = 0 ∨ k = 1 ∨ k = 2 ∨ (10 ≤ k ∧ k < 31) ∨ (40 ≤ k ∧ k < 67)) (hc : (10 ≤ c ∧ c < 31) ∨ (40 ≤ c ∧ c < 67)) : textK (k : Int) = textK (c : Int) ↔ k = c := by
  constructor
  · intro h
    have hne : textK (c : Int) ≠ [] := by
      have hw : ∀ i : Fin 21, wordsT.getD i [] ≠ [] := by decide
      have hs : ∀ i : Fin 27, signsT.getD i [] ≠ [] := by decide
      unfold textK
      rcases hc with hc | hc
      · rw [if_pos (by omega)]
        exact hw ⟨((c : Int) - 10).toNat, by omega⟩
      · rw [if_neg (by omega), if_pos (by omega)]
        exact hs ⟨((c : Int) - 40).toNat, by omega⟩
    have h1 := text_kind (c : Int) hne
    have h2 := text_kind (k : Int) (by rw [h]; exact hne)
    rw [h] at h2
    omega
  · intro h; rw [h]

theorem want_any (hT : RT w0 rb srcV tokV TL xs) (hK : Kinds TL) {W : World} {i : Nat} {ns : List Nd} (hS : RS w0 rb srcV tokV U W i ns) (hi : i < TL.length) (c : Nat) (hc : (10 ≤ c ∧ c < 31) ∨ (40 ≤ c ∧ c < 67)) (s : ByteArray) (hs : textK (c : Int) = s.data.toList) :
    Calls Tryz.prog 85 #[.pointer (some ⟨rb, 0, none⟩), .string s] W fun e W' => (kd (pts xs TL i) = c ∧ e = .returned (.int .i64 TL[i].place) ∧ RS w0 rb srcV tokV U W' (i + 1) ns ∧ KeepR rb W W') ∨ (kd (pts xs TL i) ≠ c ∧ e = faultP TL[i].place ∧ Below rb w0 W') := by
  have hiff := text_is (hK.ok i hi) hc
  rw [pts_kd hi]
  by_cases h : TL[i].kind = c
  · exact (want_yes hT hS hi s ((hiff.2 h).trans hs)).mono fun e W' h' => .inl ⟨h, h'⟩
  · exact (want_no hT hS hi s (fun h' => h (hiff.1 (h'.trans hs.symm)))).mono fun e W' h' => .inr ⟨h, h'⟩
theorem rskip_any (hT : RT w0 rb srcV tokV TL xs) (hK : Kinds TL) {W : World} {i : Nat} {ns : List Nd} (hS : RS w0 rb srcV tokV U W i ns) (hi : i < TL.length) (c : Nat) (hc : (10 ≤ c ∧ c < 31) ∨ (40 ≤ c ∧ c < 67)) (s : ByteArray) (hs : textK (c : Int) = s.data.toList) :
    Calls Tryz.prog 102 #[.pointer (some ⟨rb, 0, none⟩), .string s] W fun e W' => (kd (pts xs TL i) = c ∧ e = .returned (.bool true) ∧ RS w0 rb srcV tokV U W' (i + 1) ns ∧ KeepR rb W W') ∨ (kd (pts xs TL i) ≠ c ∧ e = .returned (.bool false) ∧ RS w0 rb srcV tokV U W' i ns ∧ KeepR rb W W') := by
  have hiff := text_is (hK.ok i hi) hc
  rw [pts_kd hi]
  by_cases h : TL[i].kind = c
  · exact (skip_yes hT hS hi s ((hiff.2 h).trans hs)).mono fun e W' h' => .inl ⟨h, h'⟩
  · exact (skip_no hT hS hi s (fun h' => h (hiff.1 (h'.trans hs.symm)))).mono fun e W' h' => .inr ⟨h, h'.1, hS.ext h'.2, KeepR.ext hS.lt h'.2⟩
theorem adv (hK : Kinds TL) {i : Nat} (hi : i < TL.length) (hc : TL[i].kind ≠ 0) : i + 1 < TL.length := by
  have := hK.last i hi
  rcases Nat.lt_or_ge (i + 1) TL.length with h1 | h1
  · exact h1
  · exact absurd (this.2 (by omega)) hc
/-- the reader stands at the tokens s -/
def RSs (w0 : World) (rb : Nat) (srcV tokV : Value) (TL : List Tok) (xs : List UInt8) (U : Nat → Prop) (W : World) (s : List PTok) (ns : List Nd) : Prop := ∃ i, s = pts xs TL i ∧ i < TL.length ∧ RS w0 rb srcV tokV U W i ns ∧ ns.length ≤ i ∧ ∀ g, U g → g < W.heap.size
theorem RSs.ext {W W' : World} {s : List PTok} {ns : List Nd} (h : RSs w0 rb srcV tokV TL xs U W s ns) (hb : Below W.heap.size W W') : RSs w0 rb srcV tokV TL xs U W' s ns := by
  obtain ⟨i, h1, h2, h3, h4, h5⟩ := h
  exact ⟨i, h1, h2, h3.ext hb, h4, fun g hg => by have := h5 g hg; have := hb.size; omega⟩
theorem RSs.lt {W : World} {s : List PTok} {ns : List Nd} (h : RSs w0 rb srcV tokV TL xs U W s ns) : rb < W.heap.size := by
  obtain ⟨i, h1, h2, h3, h4⟩ := h
  exact h3.lt
theorem RSs.bel {W : World} {s : List PTok} {ns : List Nd} (h : RSs w0 rb srcV tokV TL xs U W s ns) : Below rb w0 W := by
  obtain ⟨i, h1, h2, h3, h4⟩ := h
  exact h3.bel
theorem RSs.ints {W W' : World} {s : List PTok} {ns : List Nd} (h : RSs w0 rb srcV tokV TL xs U W s ns) {v : Value} {ys : List Int} (hI : IntsO W rb v ys) (hk : KeepR rb W W') : IntsO W' rb v ys := by
  obtain ⟨i, h1, h2, h3, h4⟩ := h
  exact h3.ints hI hk
theorem wantS (hT : RT w0 rb srcV tokV TL xs) (hK : Kinds TL) {W : World} {s : List PTok} {ns : List Nd} (h : RSs w0 rb srcV tokV TL xs U W s ns) (c : Nat) (hc : (10 ≤ c ∧ c < 31) ∨ (40 ≤ c ∧ c < 67)) (tx : ByteArray) (ht : textK (c : Int) = tx.data.toList) :
    Calls Tryz.prog 85 #[.pointer (some ⟨rb, 0, none⟩), .string tx] W fun e W' => (kd s = c ∧ e = .returned (.int .i64 (hd s).place) ∧ RSs w0 rb srcV tokV TL xs U W' (tl s) ns ∧ (tl s).length + 1 = s.length ∧ KeepR rb W W') ∨ (kd s ≠ c ∧ e = faultP (hd s).place ∧ Below rb w0 W') := by
  obtain ⟨i, rfl, hi, hS, hni, hU⟩ := h
  refine (want_any hT hK hS hi c hc tx ht).mono ?_
  rintro e W' (⟨h1, h2, h3, h4⟩ | ⟨h1, h2, h3⟩)
  · refine .inl ⟨h1, by rw [h2, pts_hd hi]; rfl, ⟨i + 1, by rw [pts_tl hi], adv hK hi (by rw [pts_kd hi] at h1; omega), h3, by omega, fun g hg => by have := hU g hg; have := h4.size; omega⟩, by rw [pts_cons hi]; rfl, h4⟩
  · exact .inr ⟨h1, by rw [h2, pts_hd hi]; rfl, h3⟩
theorem skipS (hT : RT w0 rb srcV tokV TL xs) (hK : Kinds TL) {W : World} {s : List PTok} {ns : List Nd} (h : RSs w0 rb srcV tokV TL xs U W s ns) (c : Nat) (hc : (10 ≤ c ∧ c < 31) ∨ (40 ≤ c ∧ c < 67)) (tx : ByteArray) (ht : textK (c : Int) = tx.data.toList) :
    Calls Tryz.prog 102 #[.pointer (some ⟨rb, 0, none⟩), .string tx] W fun e W' => (kd s = c ∧ e = .returned (.bool true) ∧ RSs w0 rb srcV tokV TL xs U W' (tl s) ns ∧ (tl s).length + 1 = s.length ∧ KeepR rb W W') ∨ (kd s ≠ c ∧ e = .returned (.bool false) ∧ RSs w0 rb srcV tokV TL xs U W' s ns ∧ KeepR rb W W') := by
  obtain ⟨i, rfl, hi, hS, hni, hU⟩ := h
  refine (rskip_any hT hK hS hi c hc tx ht).mono ?_
  rintro e W' (⟨h1, h2, h3, h4⟩ | ⟨h1, h2, h3, h4⟩)
  · exact .inl ⟨h1, h2, ⟨i + 1, by rw [pts_tl hi], adv hK hi (by rw [pts_kd hi] at h1; omega), h3, by omega, fun g hg => by have := hU g hg; have := h4.size; omega⟩, by rw [pts_cons hi]; rfl, h4⟩
  · exact .inr ⟨h1, h2, ⟨i, rfl, hi, h3, hni, fun g hg => by have := hU g hg; have := h4.size; omega⟩, h4⟩
theorem textS (hT : RT w0 rb srcV tokV TL xs) {W : World} {s : List PTok} {ns : List Nd} (h : RSs w0 rb srcV tokV TL xs U W s ns) :
    Calls Tryz.prog 66 #[.pointer (some ⟨rb, 0, none⟩)] W fun e W' => e = .returned (.string ⟨(textK (kd s : Nat)).toArray⟩) ∧ Below W.heap.size W W' := by
  obtain ⟨i, rfl, hi, hS, hni, hU⟩ := h
  rw [pts_kd hi]
  exact rtext_any hT hS hi
theorem nextS (hT : RT w0 rb srcV tokV TL xs) {W : World} {s : List PTok} {ns : List Nd} (h : RSs w0 rb srcV tokV TL xs U W s ns) :
    Calls Tryz.prog 84 #[.pointer (some ⟨rb, 0, none⟩)] W fun e W' => ∃ n : Nat, e = .returned (.agg #[.int .i64 (kd s), .int .i64 (hd s).place, .int .i64 n, .int .i64 (hd s).num]) ∧ Below W.heap.size W W' := by
  obtain ⟨i, rfl, hi, hS, hni, hU⟩ := h
  refine (rnext_any hT hS hi).mono ?_
  rintro e W' ⟨h1, h2⟩
  refine ⟨TL[i].len, ?_, h2⟩
  rw [h1, pts_kd hi, pts_hd hi]
  rfl
theorem kind_ok (hK : Kinds TL) {W : World} {s : List PTok} {ns : List Nd} (h : RSs w0 rb srcV tokV TL xs U W s ns) : kd s = 0 ∨ kd s = 1 ∨ kd s = 2 ∨ (10 ≤ kd s ∧ kd s < 31) ∨ (40 ≤ kd s ∧ kd s < 67) := by
  obtain ⟨i, rfl, hi, hS, hni, hU⟩ := h
  rw [pts_kd hi]
  exact hK.ok i hi
/-- what a rule that makes one tree leaves -/
def Post1 (w0 : World) (rb : Nat) (srcV tokV : Value) (TL : List Tok) (xs : List UInt8) (U : Nat → Prop) (W : World) (s : List PTok) (ns : List Nd) (res : Res) (e : Ending) (W' : World) : Prop :=
  match res with
  | .ok ts s' => ts.length = 1 ∧ s'.length + sizes ts ≤ s.length ∧ e = .returned (.int .i64 ((ns.length + sizes ts - 1 : Nat) : Int)) ∧ RSs w0 rb srcV tokV TL xs U W' s' (ns ++ flats ts ns.length) ∧ KeepR rb W W'
  | .err s' => e = faultP (hd s').place ∧ Below rb w0 W'
  | .out => False
/-- a rule's method, called with the reader and the values vs -/
def RC (w0 : World) (rb : Nat) (srcV tokV : Value) (TL : List Tok) (xs : List UInt8) (S : List PTok → Res) (F : Nat) (vs : Array Value) : Prop :=
  ∀ U W s ns, RSs w0 rb srcV tokV TL xs U W s ns → S s ≠ .out → Calls Tryz.prog F (#[.pointer (some ⟨rb, 0, none⟩)] ++ vs) W (Post1 w0 rb srcV tokV TL xs U W s ns (S s))
theorem ends_one {ts : List Tr} (h : ts.length = 1) (o : Nat) : ends ts o = [((o + sizes ts - 1 : Nat) : Int)] := by
  match ts, h with
  | [t], _ => simp [ends, sizes]
theorem ends_append : ∀ (a b : List Tr) (o : Nat), ends (a ++ b) o = ends a o ++ ends b (o + sizes a)
  | [], b, o => by simp [ends, sizes]
  | t :: r, b, o => by
    rw [List.cons_append, ends, ends, ends_append r b, sizes, List.cons_append, Nat.add_assoc]
theorem flats_append : ∀ (a b : List Tr) (o : Nat), flats (a ++ b) o = flats a o ++ flats b (o + sizes a)
  | [], b, o => by simp [flats, sizes]
  | t :: r, b, o => by
    rw [List.cons_append, flats, flats, flats_append r b, sizes, List.append_assoc, Nat.add_assoc]
/-- the nodes of two lists of trees, one behind the other -/
theorem two_lists (ns : List Nd) (a b : List Tr) : (ns ++ flats a ns.length) ++ flats b (ns ++ flats a ns.length).length = ns ++ flats (a ++ b) ns.length := by
  rw [flats_append, List.append_assoc, List.length_append, flats_len]
theorem two_len (ns : List Nd) (a : List Tr) : (ns ++ flats a ns.length).length = ns.length + sizes a := by rw [List.length_append, flats_len]
theorem want_pos {c : Nat} {s : List PTok} {k : List PTok → Res} (h : kd s = c) : want c s k = k (tl s) := by
  unfold want
  rw [if_pos h]
theorem want_neg {c : Nat} {s : List PTok} {k : List PTok → Res} (h : kd s ≠ c) : want c s k = .err s := by
  unfold want
  rw [if_neg h]
theorem nameK_pos {s : List PTok} {k : List UInt8 → List PTok → Res} (h : kd s = 1) : nameK s k = k (hd s).name (tl s) := by
  unfold nameK
  rw [if_pos h]
theorem nameK_neg {s : List PTok} {k : List UInt8 → List PTok → Res} (h : kd s ≠ 1) : nameK s k = .err s := by
  unfold nameK
  rw [if_neg h]
theorem numK_pos {s : List PTok} {k : Nat → List PTok → Res} (h : kd s = 2) : numK s k = k (hd s).num (tl s) := by
  unfold numK
  rw [if_pos h]
theorem numK_neg {s : List PTok} {k : Nat → List PTok → Res} (h : kd s ≠ 2) : numK s k = .err s := by
  unfold numK
  rw [if_neg h]
theorem ints_new {W : World} {o : Array Value} {ys : List Int} {n : Nat} (hn : ys.length = n) (h0 : 0 < n) (hm : n ≤ 100) (hr : rb < W.heap.size) (ho : o.toList = intsC ys) : IntsO (W.alloc (.cells o 3)) rb (.slice (some ⟨W.heap.size, 0, none⟩) n n) ys := by
  unfold IntsO
  rw [hn]
  have hl : o.size = n := by
    have := congrArg List.length ho
    simpa [intsC, hn] using this
  refine ⟨by simp [intsC, hn], .inr ⟨W.heap.size, n, o, rfl, by omega, heap_alloc_new W _, Nat.le_refl _, by unfold maxLen; omega, by omega, ?_⟩⟩
  rw [ho, List.take_of_length_le (by simp [intsC, hn])]
end Go.Proofs.YtecodpdfckjalaaGreatDoor
