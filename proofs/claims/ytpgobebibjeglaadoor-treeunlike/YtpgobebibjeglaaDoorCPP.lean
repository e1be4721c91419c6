import Derived.Test.YtpgobebibjeglaaDoorCTPlain
namespace Go.Proofs.YtpgobebibjeglaaDoor
set_option linter.unusedVariables false
set_option linter.unusedSimpArgs false

/-- a token, as the reader sees it -/
structure PTok where
  kind : Nat
  place : Nat
  num : Nat
  name : List UInt8
def pt0 : PTok := ⟨0, 0, 0, []⟩
/-- a tree: kind, place, number, name, kids -/
inductive Tr where
  | mk (kind : Int) (pos : Nat) (num : Int) (name : List UInt8) (kids : List Tr)
/-- what a rule tells: trees and what is left; or where it stood still -/
inductive Res where
  | ok (ts : List Tr) (s : List PTok)
  | err (s : List PTok)
  | out
def hd (s : List PTok) : PTok := s.headD pt0
def kd (s : List PTok) : Nat := (hd s).kind
def tl (s : List PTok) : List PTok := s.tail

def andT (r : Res) (k : List Tr → List PTok → Res) : Res :=
  match r with
  | .ok a s => k a s
  | .err s => .err s
  | .out => .out
def want (c : Nat) (s : List PTok) (k : List PTok → Res) : Res := if kd s = c then k (tl s) else .err s
def nameK (s : List PTok) (k : List UInt8 → List PTok → Res) : Res := if kd s = 1 then k (hd s).name (tl s) else .err s
def numK (s : List PTok) (k : Nat → List PTok → Res) : Res := if kd s = 2 then k (hd s).num (tl s) else .err s
/-- one node, made at the token s begins with -/
def mk1 (kind : Int) (s : List PTok) (num : Int) (name : List UInt8) (kids : List Tr) (r : List PTok) : Res := .ok [.mk kind (hd s).place num name kids] r

inductive One where
  | typ | expr | param
inductive Rl where
  | typ | chanT | parted (o : One) | listed (o : One) | result
  | operands (least : Int) | ops (least : Int) (left : List Tr) (most : Int) | unary | postf | post (kid : List Tr) | primary | prog | param
  | block | stmts | stmt | branch | arms | arm | tyn | types | tops | program
def Rl.of : One → Rl
  | .typ => .typ
  | .expr => .operands 1
  | .param => .param
/-- the operator that a sign is between two operands -/
def betw (k : Nat) : Int :=
  if k = 63 then 11 else if k = 62 then 12 else if k = 51 then 21 else if k = 52 then 22 else if k = 53 then 23 else if k = 54 then 24 else if k = 55 then 25 else if k = 56 then 26
  else if k = 57 then 31 else if k = 58 then 32 else if k = 59 then 41 else if k = 60 then 42 else if k = 61 then 43 else 0

/-- ONE STEP OF EACH RULE (g: what the rules below it tell) -/
def body (g : Rl → List PTok → Res) : Rl → List PTok → Res
  | .typ, s =>
    if kd s = 19 then mk1 1 s 0 [] [] (tl s)
    else if kd s = 12 then mk1 2 s 0 [] [] (tl s)
    else if kd s = 10 then want 10 s fun s1 => want 22 s1 fun s2 => andT (g .typ s2) fun a s3 => mk1 4 s 0 [] a s3
    else if kd s = 14 then g .chanT s
    else if kd s = 40 then want 40 s fun s1 => andT (g .typ s1) fun a s2 => want 46 s2 fun s3 => andT (g (.parted .typ) s3) fun b s4 => want 41 s4 fun s5 => mk1 5 s 0 [] (a ++ b) s5
    else if kd s = 23 then want 23 s fun s1 => andT (g (.listed .typ) s1) fun a s2 => andT (g .result s2) fun b s3 => mk1 7 s b.length [] (a ++ b) s3
    else nameK s fun n s1 => mk1 3 s 0 n [] s1
  | .chanT, s => want 14 s fun s1 => want 22 s1 fun s2 => andT (g .typ s2) fun a s3 => mk1 6 s 0 [] a s3
  | .parted o, s => andT (g (.of o) s) fun a s1 => if kd s1 = 46 then andT (g (.parted o) (tl s1)) fun b s2 => .ok (a ++ b) s2 else .ok a s1
  | .listed o, s => want 40 s fun s1 => if kd s1 = 41 then .ok [] (tl s1) else andT (g (.parted o) s1) fun a s2 => want 41 s2 fun s3 => .ok a s3
  | .result, s => if kd s = 48 then g .typ (tl s) else .ok [] s
  | .operands least, s => andT (g .unary s) fun a s1 => g (.ops least a 5) s1
  | .ops least left most, s =>
    if binLevelI (betw (kd s)) < least ∨ most < binLevelI (betw (kd s)) then .ok left s
    else andT (g (.operands (binLevelI (betw (kd s)) + 1)) (tl s)) fun b s2 => g (.ops least [.mk 22 (hd s).place (betw (kd s)) [] (left ++ b)] (if binLevelI (betw (kd s)) = 3 then 2 else binLevelI (betw (kd s)))) s2
  | .unary, s =>
    if kd s = 58 then andT (g .unary (tl s)) fun a s1 => mk1 21 s 1 [] a s1
    else if kd s = 64 then andT (g .unary (tl s)) fun a s1 => mk1 21 s 2 [] a s1
    else if kd s = 65 then andT (g .unary (tl s)) fun a s1 => mk1 21 s 3 [] a s1
    else g .postf s
  | .postf, s => andT (g .primary s) fun a s1 => g (.post a) s1
  | .post kid, s =>
    if kd s = 40 then andT (g (.listed .expr) s) fun b s1 => g (.post [.mk 23 (hd s).place 0 [] (kid ++ b)]) s1
    else if kd s = 42 then want 42 s fun s1 => andT (g (.operands 1) s1) fun b s2 => want 43 s2 fun s3 => g (.post [.mk 24 (hd s).place 0 [] (kid ++ b)]) s3
    else if kd s = 49 then want 49 s fun s1 => numK s1 fun n s2 => g (.post [.mk 25 (hd s).place n [] kid]) s2
    else .ok kid s
  | .primary, s =>
    if kd s = 26 then mk1 12 s 1 [] [] (tl s)
    else if kd s = 16 then mk1 12 s 0 [] [] (tl s)
    else if kd s = 40 then want 40 s fun s1 => andT (g (.parted .expr) s1) fun a s2 => want 41 s2 fun s3 => mk1 (if a.length = 1 then 14 else 15) s 0 [] a s3
    else if kd s = 42 then want 42 s fun s1 => andT (g (.parted .expr) s1) fun a s2 => want 43 s2 fun s3 => mk1 16 s 0 [] a s3
    else if kd s = 17 then want 17 s fun s1 => want 40 s1 fun s2 => andT (g (.operands 1) s2) fun a s3 => want 46 s3 fun s4 => andT (g (.operands 1) s4) fun b s5 => want 41 s5 fun s6 => mk1 17 s 0 [] (a ++ b) s6
    else if kd s = 20 then want 20 s fun s1 => want 40 s1 fun s2 => andT (g (.operands 1) s2) fun a s3 => want 41 s3 fun s4 => mk1 18 s 0 [] a s4
    else if kd s = 21 then want 21 s fun s1 => andT (g .chanT s1) fun a s2 => mk1 19 s 0 [] a s2
    else if kd s = 23 then g .prog s
    else if kd s = 2 then numK s fun n s1 => mk1 11 s n [] [] s1
    else nameK s fun n s1 => mk1 13 s 0 n [] s1
  | .prog, s => want 23 s fun s1 =>
    if kd s1 = 1 then nameK s1 fun n s2 => andT (g (.listed .param) s2) fun a s3 => andT (g .result s3) fun b s4 => andT (g .block s4) fun c s5 => mk1 20 s b.length n (a ++ (b ++ c)) s5
    else andT (g (.listed .param) s1) fun a s3 => andT (g .result s3) fun b s4 => andT (g .block s4) fun c s5 => mk1 20 s b.length [] (a ++ (b ++ c)) s5
  | .param, s => nameK s fun n s1 => want 48 s1 fun s2 => andT (g .typ s2) fun a s3 => mk1 42 s 0 n a s3
  | .block, s => want 44 s fun s1 => andT (g .stmts s1) fun a s2 => mk1 41 s 0 [] a s2
  | .stmts, s => if kd s = 45 then .ok [] (tl s) else andT (g .stmt s) fun a s1 => andT (g .stmts s1) fun b s2 => .ok (a ++ b) s2
  | .stmt, s =>
    if kd s = 28 then want 28 s fun s1 => nameK s1 fun n s2 => want 50 s2 fun s3 => andT (g (.operands 1) s3) fun a s4 => want 47 s4 fun s5 => mk1 31 s 0 n a s5
    else if kd s = 29 then want 29 s fun s1 => nameK s1 fun n s2 => want 48 s2 fun s3 => andT (g .typ s3) fun a s4 =>
      if kd s4 = 50 then want 50 s4 fun s5 => andT (g (.operands 1) s5) fun b s6 => want 47 s6 fun s7 => mk1 32 s 0 n (a ++ b) s7 else want 47 s4 fun s5 => mk1 32 s 0 n a s5
    else if kd s = 18 then g .branch s
    else if kd s = 30 then want 30 s fun s1 => andT (g (.operands 1) s1) fun a s2 => andT (g .block s2) fun b s3 => mk1 37 s 0 [] (a ++ b) s3
    else if kd s = 24 then want 24 s fun s1 => if kd s1 = 47 then want 47 s1 fun s2 => mk1 38 s 0 [] [] s2 else andT (g (.operands 1) s1) fun a s2 => want 47 s2 fun s3 => mk1 38 s 0 [] a s3
    else if kd s = 11 then want 11 s fun s1 => andT (g (.operands 1) s1) fun a s2 => want 47 s2 fun s3 => mk1 39 s 0 [] a s3
    else if kd s = 25 then want 25 s fun s1 => want 44 s1 fun s2 => andT (g .arms s2) fun a s3 => mk1 40 s 0 [] a s3
    else if kd s = 44 then g .block s
    else andT (g (.operands 1) s) fun a s1 =>
      if kd s1 = 50 then want 50 s1 fun s2 => andT (g (.operands 1) s2) fun b s3 => want 47 s3 fun s4 => mk1 33 s1 0 [] (a ++ b) s4
      else if kd s1 = 66 then want 66 s1 fun s2 => andT (g (.operands 1) s2) fun b s3 => want 47 s3 fun s4 => mk1 34 s1 0 [] (a ++ b) s4
      else want 47 s1 fun s2 => mk1 35 s 0 [] a s2
  | .branch, s => want 18 s fun s1 => andT (g (.operands 1) s1) fun a s2 => andT (g .block s2) fun b s3 =>
    if kd s3 = 15 then want 15 s3 fun s4 => if kd s4 = 18 then andT (g .branch s4) fun c s5 => mk1 36 s 0 [] (a ++ (b ++ c)) s5 else andT (g .block s4) fun c s5 => mk1 36 s 0 [] (a ++ (b ++ c)) s5
    else mk1 36 s 0 [] (a ++ b) s3
  | .arms, s => if kd s = 45 then .ok [] (tl s) else andT (g .arm s) fun a s1 => andT (g .arms s1) fun b s2 => .ok (a ++ b) s2
  | .arm, s => want 13 s fun s1 =>
    if kd s1 = 65 then want 65 s1 fun s2 => andT (g .unary s2) fun a s3 => andT (g .block s3) fun b s4 => mk1 43 s 0 [] (a ++ b) s4
    else if kd s1 = 1 ∧ kd (tl s1) = 50 then nameK s1 fun n s2 => want 50 s2 fun s3 => want 65 s3 fun s4 => andT (g .unary s4) fun a s5 => andT (g .block s5) fun b s6 => mk1 43 s 0 n (a ++ b) s6
    else andT (g (.operands 1) s1) fun a s2 => want 66 s2 fun s3 => andT (g (.operands 1) s3) fun b s4 => andT (g .block s4) fun c s5 => mk1 44 s 0 [] (a ++ (b ++ c)) s5
  | .tyn, s => want 27 s fun s1 => nameK s1 fun n s2 => want 50 s2 fun s3 => andT (g .typ s3) fun a s4 => want 47 s4 fun s5 => mk1 45 s 0 n a s5
  | .types, s => if kd s = 27 then andT (g .tyn s) fun a s1 => andT (g .types s1) fun b s2 => .ok (a ++ b) s2 else .ok [] s
  | .tops, s => if s.length ≤ 1 then .ok [] s else andT (g .stmt s) fun a s1 => andT (g .tops s1) fun b s2 => .ok (a ++ b) s2
  | .program, s => andT (g .types s) fun a s1 => andT (g .tops s1) fun b s2 => .ok [.mk 46 0 a.length [] (a ++ b)] s2
/-- THE READER -/
def pF : Nat → Rl → List PTok → Res
  | 0, _, _ => .out
  | f + 1, r, s => body (pF f) r s

/-! ### more fuel tells the same -/
def Le (a b : Res) : Prop := ∀ t s, a = .ok t s → b = .ok t s
theorem le_refl (a : Res) : Le a a := fun _ _ h => h
theorem le_out (b : Res) : Le .out b := fun _ _ h => by cases h
theorem andT_le {a b : Res} {k l : List Tr → List PTok → Res} (h : Le a b) (hk : ∀ t s, Le (k t s) (l t s)) : Le (andT a k) (andT b l) := by
  intro t s e
  match a, h, e with
  | .ok x y, h, e =>
    rw [h x y rfl]
    exact hk x y t s e
theorem want_le {c : Nat} {s : List PTok} {k l : List PTok → Res} (hk : ∀ s, Le (k s) (l s)) : Le (want c s k) (want c s l) := by
  unfold want
  split
  · exact hk _
  · exact le_refl _
theorem nameK_le {s : List PTok} {k l : List UInt8 → List PTok → Res} (hk : ∀ n s, Le (k n s) (l n s)) : Le (nameK s k) (nameK s l) := by
  unfold nameK
  split
  · exact hk _ _
  · exact le_refl _
theorem numK_le {s : List PTok} {k l : Nat → List PTok → Res} (hk : ∀ n s, Le (k n s) (l n s)) : Le (numK s k) (numK s l) := by
  unfold numK
  split
  · exact hk _ _
  · exact le_refl _
theorem ite_le2 {p : Prop} [Decidable p] {a b c d : Res} (h1 : Le a c) (h2 : Le b d) : Le (if p then a else b) (if p then c else d) := by
  split
  · exact h1
  · exact h2
theorem body_le {g h : Rl → List PTok → Res} (H : ∀ r s, Le (g r s) (h r s)) (r : Rl) (s : List PTok) : Le (body g r s) (body h r s) := by
  cases r <;> (unfold body; repeat' (first | exact le_refl _ | exact H _ _ | refine ite_le2 ?_ ?_ | refine andT_le (H _ _) (fun _ _ => ?_) | refine want_le (fun _ => ?_) | refine nameK_le (fun _ _ => ?_) | refine numK_le (fun _ _ => ?_)))
theorem pF_le : ∀ (f : Nat) (r : Rl) (s : List PTok), Le (pF f r s) (pF (f + 1) r s)
  | 0, r, s => le_out _
  | f + 1, r, s => body_le (pF_le f) r s
theorem pF_mono {f f' : Nat} (h : f ≤ f') (r : Rl) (s : List PTok) : Le (pF f r s) (pF f' r s) := by
  induction h with
  | refl => exact le_refl _
  | step _ ih => exact fun t s' e => pF_le _ r s t s' (ih t s' e)
/-- a rule, at tokens, tells trees and leaves the rest -/
def P (r : Rl) (s : List PTok) (ts : List Tr) (s' : List PTok) : Prop := ∃ f, pF f r s = .ok ts s'
theorem P_one {r : Rl} {s s1 s2 : List PTok} {a b : List Tr} (h1 : P r s a s1) (h2 : P r s b s2) : a = b ∧ s1 = s2 := by
  obtain ⟨f1, h1⟩ := h1
  obtain ⟨f2, h2⟩ := h2
  have e1 := pF_mono (Nat.le_add_right f1 f2) r s _ _ h1
  have e2 := pF_mono (Nat.le_add_left f2 f1) r s _ _ h2
  rw [e1] at e2
  cases e2
  exact ⟨rfl, rfl⟩
/-! ### a rule out of the rules below it -/
def Q (G : (Rl → List PTok → Res) → Res) (ts : List Tr) (s' : List PTok) : Prop := ∃ f, ∀ f', f ≤ f' → G (pF f') = .ok ts s'
theorem P_of {r : Rl} {s s' : List PTok} {ts : List Tr} (h : Q (fun g => body g r s) ts s') : P r s ts s' := by
  obtain ⟨f, h⟩ := h
  exact ⟨f + 1, h f (Nat.le_refl _)⟩
theorem Q_P {r : Rl} {s s' : List PTok} {ts : List Tr} (h : P r s ts s') : Q (fun g => g r s) ts s' := by
  obtain ⟨f, h⟩ := h
  exact ⟨f, fun f' hf => pF_mono hf r s _ _ h⟩
theorem Q_ok (ts : List Tr) (s : List PTok) : Q (fun _ => .ok ts s) ts s := ⟨0, fun _ _ => rfl⟩
theorem Q_mk {kind : Int} {s : List PTok} {num : Int} {name : List UInt8} {kids : List Tr} {r : List PTok} : Q (fun _ => mk1 kind s num name kids r) [.mk kind (hd s).place num name kids] r := ⟨0, fun _ _ => rfl⟩
theorem Q_and {r : Rl} {s s1 s' : List PTok} {a ts : List Tr} {K : (Rl → List PTok → Res) → List Tr → List PTok → Res} (h : P r s a s1) (hk : Q (fun g => K g a s1) ts s') : Q (fun g => andT (g r s) (K g)) ts s' := by
  obtain ⟨f1, h1⟩ := h
  obtain ⟨f2, h2⟩ := hk
  refine ⟨f1 + f2, fun f' hf => ?_⟩
  show andT (pF f' r s) (K (pF f')) = _
  rw [pF_mono (show f1 ≤ f' by omega) r s _ _ h1]
  exact h2 f' (by omega)
theorem Q_want {c : Nat} {t : PTok} {s s' : List PTok} {ts : List Tr} {K : (Rl → List PTok → Res) → List PTok → Res} (ht : t.kind = c) (hk : Q (fun g => K g s) ts s') : Q (fun g => want c (t :: s) (K g)) ts s' := by
  obtain ⟨f, h⟩ := hk
  refine ⟨f, fun f' hf => ?_⟩
  have e : kd (t :: s) = c := ht
  show want c (t :: s) (K (pF f')) = _
  unfold want
  rw [if_pos e]
  exact h f' hf
theorem Q_name {t : PTok} {s s' : List PTok} {ts : List Tr} {K : (Rl → List PTok → Res) → List UInt8 → List PTok → Res} (ht : t.kind = 1) (hk : Q (fun g => K g t.name s) ts s') : Q (fun g => nameK (t :: s) (K g)) ts s' := by
  obtain ⟨f, h⟩ := hk
  refine ⟨f, fun f' hf => ?_⟩
  have e : kd (t :: s) = 1 := ht
  show nameK (t :: s) (K (pF f')) = _
  unfold nameK
  rw [if_pos e]
  exact h f' hf
theorem Q_num {t : PTok} {s s' : List PTok} {ts : List Tr} {K : (Rl → List PTok → Res) → Nat → List PTok → Res} (ht : t.kind = 2) (hk : Q (fun g => K g t.num s) ts s') : Q (fun g => numK (t :: s) (K g)) ts s' := by
  obtain ⟨f, h⟩ := hk
  refine ⟨f, fun f' hf => ?_⟩
  have e : kd (t :: s) = 2 := ht
  show numK (t :: s) (K (pF f')) = _
  unfold numK
  rw [if_pos e]
  exact h f' hf
theorem Q_yes {p : Prop} [Decidable p] {s' : List PTok} {ts : List Tr} {A B : (Rl → List PTok → Res) → Res} (hp : p) (h : Q A ts s') : Q (fun g => if p then A g else B g) ts s' := by
  obtain ⟨f, h⟩ := h
  refine ⟨f, fun f' hf => ?_⟩
  show (if p then A (pF f') else B (pF f')) = _
  rw [if_pos hp]
  exact h f' hf
theorem Q_no {p : Prop} [Decidable p] {s' : List PTok} {ts : List Tr} {A B : (Rl → List PTok → Res) → Res} (hp : ¬ p) (h : Q B ts s') : Q (fun g => if p then A g else B g) ts s' := by
  obtain ⟨f, h⟩ := h
  refine ⟨f, fun f' hf => ?_⟩
  show (if p then A (pF f') else B (pF f')) = _
  rw [if_neg hp]
  exact h f' hf
end Go.Proofs.YtpgobebibjeglaaDoor
namespace Go.Proofs.YtpgobebibjeglaaDoor
set_option linter.unusedVariables false
set_option linter.unusedSimpArgs false

theorem I_int {t : PTok} {rest : List PTok} (ht : t.kind = 19) : P .typ (t :: rest) [.mk 1 t.place 0 [] []] rest := by
  refine P_of ?_
  simp only [body]
  have hk : kd (t :: rest) = t.kind := rfl
  refine Q_yes (by omega) ?_
  exact Q_mk

theorem I_bool {t : PTok} {rest : List PTok} (ht : t.kind = 12) : P .typ (t :: rest) [.mk 2 t.place 0 [] []] rest := by
  refine P_of ?_
  simp only [body]
  have hk : kd (t :: rest) = t.kind := rfl
  refine Q_no (by omega) ?_
  refine Q_yes (by omega) ?_
  exact Q_mk

theorem I_array {t u : PTok} {s rest : List PTok} {a : List Tr} (ht : t.kind = 10) (hu : u.kind = 22) (g0 : P .typ s a rest) : P .typ (t :: u :: s) [.mk 4 t.place 0 [] a] rest := by
  refine P_of ?_
  simp only [body]
  have hk : kd (t :: u :: s) = t.kind := rfl
  refine Q_no (by omega) ?_
  refine Q_no (by omega) ?_
  refine Q_yes (by omega) ?_
  refine Q_want (by assumption) ?_
  refine Q_want (by assumption) ?_
  refine Q_and (by assumption) ?_
  exact Q_mk

theorem I_chan {t : PTok} {s rest : List PTok} {a : List Tr} (ht : t.kind = 14) (g0 : P .chanT (t :: s) a rest) : P .typ (t :: s) a rest := by
  refine P_of ?_
  simp only [body]
  have hk : kd (t :: s) = t.kind := rfl
  refine Q_no (by omega) ?_
  refine Q_no (by omega) ?_
  refine Q_no (by omega) ?_
  refine Q_yes (by omega) ?_
  exact Q_P (by assumption)

theorem I_chanT {t u : PTok} {s rest : List PTok} {a : List Tr} (ht : t.kind = 14) (hu : u.kind = 22) (g0 : P .typ s a rest) : P .chanT (t :: u :: s) [.mk 6 t.place 0 [] a] rest := by
  refine P_of ?_
  simp only [body]
  have hk : kd (t :: u :: s) = t.kind := rfl
  refine Q_want (by assumption) ?_
  refine Q_want (by assumption) ?_
  refine Q_and (by assumption) ?_
  exact Q_mk

theorem I_tuple {t u v : PTok} {s s1 rest : List PTok} {a b : List Tr} (ht : t.kind = 40) (hu : u.kind = 46) (hv : v.kind = 41) (g0 : P .typ s a (u :: s1)) (g1 : P (.parted .typ) s1 b (v :: rest)) : P .typ (t :: s) [.mk 5 t.place 0 [] (a ++ b)] rest := by
  refine P_of ?_
  simp only [body]
  have hk : kd (t :: s) = t.kind := rfl
  refine Q_no (by omega) ?_
  refine Q_no (by omega) ?_
  refine Q_no (by omega) ?_
  refine Q_no (by omega) ?_
  refine Q_yes (by omega) ?_
  refine Q_want (by assumption) ?_
  refine Q_and (by assumption) ?_
  refine Q_want (by assumption) ?_
  refine Q_and (by assumption) ?_
  refine Q_want (by assumption) ?_
  exact Q_mk

theorem I_tprog {t : PTok} {s s1 rest : List PTok} {a b : List Tr} (ht : t.kind = 23) (g0 : P (.listed .typ) s a s1) (g1 : P .result s1 b rest) : P .typ (t :: s) [.mk 7 t.place b.length [] (a ++ b)] rest := by
  refine P_of ?_
  simp only [body]
  have hk : kd (t :: s) = t.kind := rfl
  refine Q_no (by omega) ?_
  refine Q_no (by omega) ?_
  refine Q_no (by omega) ?_
  refine Q_no (by omega) ?_
  refine Q_no (by omega) ?_
  refine Q_yes (by omega) ?_
  refine Q_want (by assumption) ?_
  refine Q_and (by assumption) ?_
  refine Q_and (by assumption) ?_
  exact Q_mk

theorem I_tname {t : PTok} {rest : List PTok} (ht : t.kind = 1) : P .typ (t :: rest) [.mk 3 t.place 0 t.name []] rest := by
  refine P_of ?_
  simp only [body]
  have hk : kd (t :: rest) = t.kind := rfl
  refine Q_no (by omega) ?_
  refine Q_no (by omega) ?_
  refine Q_no (by omega) ?_
  refine Q_no (by omega) ?_
  refine Q_no (by omega) ?_
  refine Q_no (by omega) ?_
  refine Q_name (by assumption) ?_
  exact Q_mk

theorem I_part1  {o : One} {s rest : List PTok} {a : List Tr} (g0 : P (.of o) s a rest) (g1 : kd rest ≠ 46) : P (.parted o) (s) a rest := by
  refine P_of ?_
  simp only [body]
  refine Q_and (by assumption) ?_
  refine Q_no (by omega) ?_
  exact Q_ok _ _

theorem I_part2 {t : PTok} {o : One} {s s1 rest : List PTok} {a b : List Tr} (ht : t.kind = 46) (g0 : P (.of o) s a (t :: s1)) (g1 : P (.parted o) s1 b rest) : P (.parted o) (s) (a ++ b) rest := by
  refine P_of ?_
  simp only [body]
  have hk2 : kd (t :: s1) = t.kind := rfl
  refine Q_and (by assumption) ?_
  refine Q_yes (by omega) ?_
  refine Q_and (by assumption) ?_
  exact Q_ok _ _

theorem I_list0 {t u : PTok} {o : One} {rest : List PTok} (ht : t.kind = 40) (hu : u.kind = 41) : P (.listed o) (t :: u :: rest) [] rest := by
  refine P_of ?_
  simp only [body]
  have hk : kd (t :: u :: rest) = t.kind := rfl
  have hk2 : kd (u :: rest) = u.kind := rfl
  refine Q_want (by assumption) ?_
  refine Q_yes (by omega) ?_
  exact Q_ok _ _

theorem I_list1 {t u : PTok} {o : One} {s rest : List PTok} {a : List Tr} (ht : t.kind = 40) (hu : u.kind = 41) (g0 : kd s ≠ 41) (g1 : P (.parted o) s a (u :: rest)) : P (.listed o) (t :: s) a rest := by
  refine P_of ?_
  simp only [body]
  have hk : kd (t :: s) = t.kind := rfl
  refine Q_want (by assumption) ?_
  refine Q_no (by omega) ?_
  refine Q_and (by assumption) ?_
  refine Q_want (by assumption) ?_
  exact Q_ok _ _

theorem I_res0  {s : List PTok} (g0 : kd s ≠ 48) : P .result (s) [] s := by
  refine P_of ?_
  simp only [body]
  refine Q_no (by omega) ?_
  exact Q_ok _ _

theorem I_res1 {t : PTok} {s rest : List PTok} {a : List Tr} (ht : t.kind = 48) (g0 : P .typ s a rest) : P .result (t :: s) a rest := by
  refine P_of ?_
  simp only [body]
  have hk : kd (t :: s) = t.kind := rfl
  refine Q_yes (by omega) ?_
  exact Q_P (by assumption)

theorem I_operands  {least : Int} {s s1 rest : List PTok} {a b : List Tr} (g0 : P .unary s a s1) (g1 : P (.ops least a 5) s1 b rest) : P (.operands least) (s) b rest := by
  refine P_of ?_
  simp only [body]
  refine Q_and (by assumption) ?_
  exact Q_P (by assumption)

theorem I_ops0  {least most : Int} {left : List Tr} {s : List PTok} (g0 : binLevelI (betw (kd s)) < least ∨ most < binLevelI (betw (kd s))) : P (.ops least left most) (s) left s := by
  refine P_of ?_
  simp only [body]
  refine Q_yes (by omega) ?_
  exact Q_ok _ _

theorem I_ops1  {t : PTok} {least most : Int} {left b c : List Tr} {s s2 rest : List PTok} (g0 : ¬ (binLevelI (betw t.kind) < least ∨ most < binLevelI (betw t.kind))) (g1 : P (.operands (binLevelI (betw t.kind) + 1)) s b s2) (g2 : P (.ops least [.mk 22 t.place (betw t.kind) [] (left ++ b)] (if binLevelI (betw t.kind) = 3 then 2 else binLevelI (betw t.kind))) s2 c rest) : P (.ops least left most) (t :: s) c rest := by
  refine P_of ?_
  simp only [body]
  exact Q_no g0 (Q_and g1 (Q_P g2))

theorem I_un1 {t : PTok} {s rest : List PTok} {a : List Tr} (ht : t.kind = 58) (g0 : P .unary s a rest) : P .unary (t :: s) [.mk 21 t.place 1 [] a] rest := by
  refine P_of ?_
  simp only [body]
  have hk : kd (t :: s) = t.kind := rfl
  refine Q_yes (by omega) ?_
  refine Q_and (by assumption) ?_
  exact Q_mk

theorem I_un2 {t : PTok} {s rest : List PTok} {a : List Tr} (ht : t.kind = 64) (g0 : P .unary s a rest) : P .unary (t :: s) [.mk 21 t.place 2 [] a] rest := by
  refine P_of ?_
  simp only [body]
  have hk : kd (t :: s) = t.kind := rfl
  refine Q_no (by omega) ?_
  refine Q_yes (by omega) ?_
  refine Q_and (by assumption) ?_
  exact Q_mk

theorem I_un3 {t : PTok} {s rest : List PTok} {a : List Tr} (ht : t.kind = 65) (g0 : P .unary s a rest) : P .unary (t :: s) [.mk 21 t.place 3 [] a] rest := by
  refine P_of ?_
  simp only [body]
  have hk : kd (t :: s) = t.kind := rfl
  refine Q_no (by omega) ?_
  refine Q_no (by omega) ?_
  refine Q_yes (by omega) ?_
  refine Q_and (by assumption) ?_
  exact Q_mk

theorem I_un0  {s rest : List PTok} {a : List Tr} (g0 : kd s ≠ 58) (g1 : kd s ≠ 64) (g2 : kd s ≠ 65) (g3 : P .postf s a rest) : P .unary (s) a rest := by
  refine P_of ?_
  simp only [body]
  refine Q_no (by omega) ?_
  refine Q_no (by omega) ?_
  refine Q_no (by omega) ?_
  exact Q_P (by assumption)

theorem I_postfix  {s s1 rest : List PTok} {a b : List Tr} (g0 : P .primary s a s1) (g1 : P (.post a) s1 b rest) : P .postf (s) b rest := by
  refine P_of ?_
  simp only [body]
  refine Q_and (by assumption) ?_
  exact Q_P (by assumption)

theorem I_call {t : PTok} {s s1 rest : List PTok} {k b c : List Tr} (ht : t.kind = 40) (g0 : P (.listed .expr) (t :: s) b s1) (g1 : P (.post [.mk 23 t.place 0 [] (k ++ b)]) s1 c rest) : P (.post k) (t :: s) c rest := by
  refine P_of ?_
  simp only [body]
  have hk : kd (t :: s) = t.kind := rfl
  refine Q_yes (by omega) ?_
  refine Q_and (by assumption) ?_
  exact Q_P (by assumption)

theorem I_index {t u : PTok} {s s1 rest : List PTok} {k b c : List Tr} (ht : t.kind = 42) (hu : u.kind = 43) (g0 : P (.operands 1) s b (u :: s1)) (g1 : P (.post [.mk 24 t.place 0 [] (k ++ b)]) s1 c rest) : P (.post k) (t :: s) c rest := by
  refine P_of ?_
  simp only [body]
  have hk : kd (t :: s) = t.kind := rfl
  refine Q_no (by omega) ?_
  refine Q_yes (by omega) ?_
  refine Q_want (by assumption) ?_
  refine Q_and (by assumption) ?_
  refine Q_want (by assumption) ?_
  exact Q_P (by assumption)

theorem I_field {t u : PTok} {s rest : List PTok} {k c : List Tr} (ht : t.kind = 49) (hu : u.kind = 2) (g0 : P (.post [.mk 25 t.place u.num [] k]) s c rest) : P (.post k) (t :: u :: s) c rest := by
  refine P_of ?_
  simp only [body]
  have hk : kd (t :: u :: s) = t.kind := rfl
  refine Q_no (by omega) ?_
  refine Q_no (by omega) ?_
  refine Q_yes (by omega) ?_
  refine Q_want (by assumption) ?_
  refine Q_num (by assumption) ?_
  exact Q_P (by assumption)

theorem I_post0  {s : List PTok} {k : List Tr} (g0 : kd s ≠ 40) (g1 : kd s ≠ 42) (g2 : kd s ≠ 49) : P (.post k) (s) k s := by
  refine P_of ?_
  simp only [body]
  refine Q_no (by omega) ?_
  refine Q_no (by omega) ?_
  refine Q_no (by omega) ?_
  exact Q_ok _ _

theorem I_true {t : PTok} {rest : List PTok} (ht : t.kind = 26) : P .primary (t :: rest) [.mk 12 t.place 1 [] []] rest := by
  refine P_of ?_
  simp only [body]
  have hk : kd (t :: rest) = t.kind := rfl
  refine Q_yes (by omega) ?_
  exact Q_mk

theorem I_false {t : PTok} {rest : List PTok} (ht : t.kind = 16) : P .primary (t :: rest) [.mk 12 t.place 0 [] []] rest := by
  refine P_of ?_
  simp only [body]
  have hk : kd (t :: rest) = t.kind := rfl
  refine Q_no (by omega) ?_
  refine Q_yes (by omega) ?_
  exact Q_mk

theorem I_paren {t u : PTok} {s rest : List PTok} {a : List Tr} (ht : t.kind = 40) (hu : u.kind = 41) (g0 : P (.parted .expr) s a (u :: rest)) : P .primary (t :: s) [.mk (if a.length = 1 then 14 else 15) t.place 0 [] a] rest := by
  refine P_of ?_
  simp only [body]
  have hk : kd (t :: s) = t.kind := rfl
  refine Q_no (by omega) ?_
  refine Q_no (by omega) ?_
  refine Q_yes (by omega) ?_
  refine Q_want (by assumption) ?_
  refine Q_and (by assumption) ?_
  refine Q_want (by assumption) ?_
  exact Q_mk

theorem I_arr {t u : PTok} {s rest : List PTok} {a : List Tr} (ht : t.kind = 42) (hu : u.kind = 43) (g0 : P (.parted .expr) s a (u :: rest)) : P .primary (t :: s) [.mk 16 t.place 0 [] a] rest := by
  refine P_of ?_
  simp only [body]
  have hk : kd (t :: s) = t.kind := rfl
  refine Q_no (by omega) ?_
  refine Q_no (by omega) ?_
  refine Q_no (by omega) ?_
  refine Q_yes (by omega) ?_
  refine Q_want (by assumption) ?_
  refine Q_and (by assumption) ?_
  refine Q_want (by assumption) ?_
  exact Q_mk

theorem I_fill {t u v x : PTok} {s s1 rest : List PTok} {a b : List Tr} (ht : t.kind = 17) (hu : u.kind = 40) (hv : v.kind = 46) (hx : x.kind = 41) (g0 : P (.operands 1) s a (v :: s1)) (g1 : P (.operands 1) s1 b (x :: rest)) : P .primary (t :: u :: s) [.mk 17 t.place 0 [] (a ++ b)] rest := by
  refine P_of ?_
  simp only [body]
  have hk : kd (t :: u :: s) = t.kind := rfl
  refine Q_no (by omega) ?_
  refine Q_no (by omega) ?_
  refine Q_no (by omega) ?_
  refine Q_no (by omega) ?_
  refine Q_yes (by omega) ?_
  refine Q_want (by assumption) ?_
  refine Q_want (by assumption) ?_
  refine Q_and (by assumption) ?_
  refine Q_want (by assumption) ?_
  refine Q_and (by assumption) ?_
  refine Q_want (by assumption) ?_
  exact Q_mk

theorem I_len {t u v : PTok} {s rest : List PTok} {a : List Tr} (ht : t.kind = 20) (hu : u.kind = 40) (hv : v.kind = 41) (g0 : P (.operands 1) s a (v :: rest)) : P .primary (t :: u :: s) [.mk 18 t.place 0 [] a] rest := by
  refine P_of ?_
  simp only [body]
  have hk : kd (t :: u :: s) = t.kind := rfl
  refine Q_no (by omega) ?_
  refine Q_no (by omega) ?_
  refine Q_no (by omega) ?_
  refine Q_no (by omega) ?_
  refine Q_no (by omega) ?_
  refine Q_yes (by omega) ?_
  refine Q_want (by assumption) ?_
  refine Q_want (by assumption) ?_
  refine Q_and (by assumption) ?_
  refine Q_want (by assumption) ?_
  exact Q_mk

theorem I_make {t : PTok} {s rest : List PTok} {a : List Tr} (ht : t.kind = 21) (g0 : P .chanT s a rest) : P .primary (t :: s) [.mk 19 t.place 0 [] a] rest := by
  refine P_of ?_
  simp only [body]
  have hk : kd (t :: s) = t.kind := rfl
  refine Q_no (by omega) ?_
  refine Q_no (by omega) ?_
  refine Q_no (by omega) ?_
  refine Q_no (by omega) ?_
  refine Q_no (by omega) ?_
  refine Q_no (by omega) ?_
  refine Q_yes (by omega) ?_
  refine Q_want (by assumption) ?_
  refine Q_and (by assumption) ?_
  exact Q_mk

theorem I_progE {t : PTok} {s rest : List PTok} {a : List Tr} (ht : t.kind = 23) (g0 : P .prog (t :: s) a rest) : P .primary (t :: s) a rest := by
  refine P_of ?_
  simp only [body]
  have hk : kd (t :: s) = t.kind := rfl
  refine Q_no (by omega) ?_
  refine Q_no (by omega) ?_
  refine Q_no (by omega) ?_
  refine Q_no (by omega) ?_
  refine Q_no (by omega) ?_
  refine Q_no (by omega) ?_
  refine Q_no (by omega) ?_
  refine Q_yes (by omega) ?_
  exact Q_P (by assumption)

theorem I_numE {t : PTok} {rest : List PTok} (ht : t.kind = 2) : P .primary (t :: rest) [.mk 11 t.place t.num [] []] rest := by
  refine P_of ?_
  simp only [body]
  have hk : kd (t :: rest) = t.kind := rfl
  refine Q_no (by omega) ?_
  refine Q_no (by omega) ?_
  refine Q_no (by omega) ?_
  refine Q_no (by omega) ?_
  refine Q_no (by omega) ?_
  refine Q_no (by omega) ?_
  refine Q_no (by omega) ?_
  refine Q_no (by omega) ?_
  refine Q_yes (by omega) ?_
  refine Q_num (by assumption) ?_
  exact Q_mk

theorem I_nameE {t : PTok} {rest : List PTok} (ht : t.kind = 1) : P .primary (t :: rest) [.mk 13 t.place 0 t.name []] rest := by
  refine P_of ?_
  simp only [body]
  have hk : kd (t :: rest) = t.kind := rfl
  refine Q_no (by omega) ?_
  refine Q_no (by omega) ?_
  refine Q_no (by omega) ?_
  refine Q_no (by omega) ?_
  refine Q_no (by omega) ?_
  refine Q_no (by omega) ?_
  refine Q_no (by omega) ?_
  refine Q_no (by omega) ?_
  refine Q_no (by omega) ?_
  refine Q_name (by assumption) ?_
  exact Q_mk

theorem I_prog1 {t u : PTok} {s s1 s2 rest : List PTok} {a b c : List Tr} (ht : t.kind = 23) (hu : u.kind = 1) (g0 : P (.listed .param) s a s1) (g1 : P .result s1 b s2) (g2 : P .block s2 c rest) : P .prog (t :: u :: s) [.mk 20 t.place b.length u.name (a ++ (b ++ c))] rest := by
  refine P_of ?_
  simp only [body]
  have hk : kd (t :: u :: s) = t.kind := rfl
  have hk2 : kd (u :: s) = u.kind := rfl
  refine Q_want (by assumption) ?_
  refine Q_yes (by omega) ?_
  refine Q_name (by assumption) ?_
  refine Q_and (by assumption) ?_
  refine Q_and (by assumption) ?_
  refine Q_and (by assumption) ?_
  exact Q_mk

theorem I_prog0 {t : PTok} {s s1 s2 rest : List PTok} {a b c : List Tr} (ht : t.kind = 23) (g0 : kd s ≠ 1) (g1 : P (.listed .param) s a s1) (g2 : P .result s1 b s2) (g3 : P .block s2 c rest) : P .prog (t :: s) [.mk 20 t.place b.length [] (a ++ (b ++ c))] rest := by
  refine P_of ?_
  simp only [body]
  have hk : kd (t :: s) = t.kind := rfl
  refine Q_want (by assumption) ?_
  refine Q_no (by omega) ?_
  refine Q_and (by assumption) ?_
  refine Q_and (by assumption) ?_
  refine Q_and (by assumption) ?_
  exact Q_mk

theorem I_param {t u : PTok} {s rest : List PTok} {a : List Tr} (ht : t.kind = 1) (hu : u.kind = 48) (g0 : P .typ s a rest) : P .param (t :: u :: s) [.mk 42 t.place 0 t.name a] rest := by
  refine P_of ?_
  simp only [body]
  have hk : kd (t :: u :: s) = t.kind := rfl
  refine Q_name (by assumption) ?_
  refine Q_want (by assumption) ?_
  refine Q_and (by assumption) ?_
  exact Q_mk

theorem I_block {t : PTok} {s rest : List PTok} {a : List Tr} (ht : t.kind = 44) (g0 : P .stmts s a rest) : P .block (t :: s) [.mk 41 t.place 0 [] a] rest := by
  refine P_of ?_
  simp only [body]
  have hk : kd (t :: s) = t.kind := rfl
  refine Q_want (by assumption) ?_
  refine Q_and (by assumption) ?_
  exact Q_mk

theorem I_stmts0 {t : PTok} {rest : List PTok} (ht : t.kind = 45) : P .stmts (t :: rest) [] rest := by
  refine P_of ?_
  simp only [body]
  have hk : kd (t :: rest) = t.kind := rfl
  refine Q_yes (by omega) ?_
  exact Q_ok _ _

theorem I_stmts1  {s s1 rest : List PTok} {a b : List Tr} (g0 : kd s ≠ 45) (g1 : P .stmt s a s1) (g2 : P .stmts s1 b rest) : P .stmts (s) (a ++ b) rest := by
  refine P_of ?_
  simp only [body]
  refine Q_no (by omega) ?_
  refine Q_and (by assumption) ?_
  refine Q_and (by assumption) ?_
  exact Q_ok _ _

theorem I_val {t u v x : PTok} {s rest : List PTok} {a : List Tr} (ht : t.kind = 28) (hu : u.kind = 1) (hv : v.kind = 50) (hx : x.kind = 47) (g0 : P (.operands 1) s a (x :: rest)) : P .stmt (t :: u :: v :: s) [.mk 31 t.place 0 u.name a] rest := by
  refine P_of ?_
  simp only [body]
  have hk : kd (t :: u :: v :: s) = t.kind := rfl
  refine Q_yes (by omega) ?_
  refine Q_want (by assumption) ?_
  refine Q_name (by assumption) ?_
  refine Q_want (by assumption) ?_
  refine Q_and (by assumption) ?_
  refine Q_want (by assumption) ?_
  exact Q_mk

theorem I_var1 {t u v x : PTok} {s rest : List PTok} {a : List Tr} (ht : t.kind = 29) (hu : u.kind = 1) (hv : v.kind = 48) (hx : x.kind = 47) (g0 : P .typ s a (x :: rest)) : P .stmt (t :: u :: v :: s) [.mk 32 t.place 0 u.name a] rest := by
  refine P_of ?_
  simp only [body]
  have hk : kd (t :: u :: v :: s) = t.kind := rfl
  have hk2 : kd (x :: rest) = x.kind := rfl
  refine Q_no (by omega) ?_
  refine Q_yes (by omega) ?_
  refine Q_want (by assumption) ?_
  refine Q_name (by assumption) ?_
  refine Q_want (by assumption) ?_
  refine Q_and (by assumption) ?_
  refine Q_no (by omega) ?_
  refine Q_want (by assumption) ?_
  exact Q_mk

theorem I_var2 {t u v y x : PTok} {s s1 rest : List PTok} {a b : List Tr} (ht : t.kind = 29) (hu : u.kind = 1) (hv : v.kind = 48) (hy : y.kind = 50) (hx : x.kind = 47) (g0 : P .typ s a (y :: s1)) (g1 : P (.operands 1) s1 b (x :: rest)) : P .stmt (t :: u :: v :: s) [.mk 32 t.place 0 u.name (a ++ b)] rest := by
  refine P_of ?_
  simp only [body]
  have hk : kd (t :: u :: v :: s) = t.kind := rfl
  have hk2 : kd (y :: s1) = y.kind := rfl
  refine Q_no (by omega) ?_
  refine Q_yes (by omega) ?_
  refine Q_want (by assumption) ?_
  refine Q_name (by assumption) ?_
  refine Q_want (by assumption) ?_
  refine Q_and (by assumption) ?_
  refine Q_yes (by omega) ?_
  refine Q_want (by assumption) ?_
  refine Q_and (by assumption) ?_
  refine Q_want (by assumption) ?_
  exact Q_mk

theorem I_ifS {t : PTok} {s rest : List PTok} {a : List Tr} (ht : t.kind = 18) (g0 : P .branch (t :: s) a rest) : P .stmt (t :: s) a rest := by
  refine P_of ?_
  simp only [body]
  have hk : kd (t :: s) = t.kind := rfl
  refine Q_no (by omega) ?_
  refine Q_no (by omega) ?_
  refine Q_yes (by omega) ?_
  exact Q_P (by assumption)

theorem I_while {t : PTok} {s s1 rest : List PTok} {a b : List Tr} (ht : t.kind = 30) (g0 : P (.operands 1) s a s1) (g1 : P .block s1 b rest) : P .stmt (t :: s) [.mk 37 t.place 0 [] (a ++ b)] rest := by
  refine P_of ?_
  simp only [body]
  have hk : kd (t :: s) = t.kind := rfl
  refine Q_no (by omega) ?_
  refine Q_no (by omega) ?_
  refine Q_no (by omega) ?_
  refine Q_yes (by omega) ?_
  refine Q_want (by assumption) ?_
  refine Q_and (by assumption) ?_
  refine Q_and (by assumption) ?_
  exact Q_mk

theorem I_ret0 {t u : PTok} {rest : List PTok} (ht : t.kind = 24) (hu : u.kind = 47) : P .stmt (t :: u :: rest) [.mk 38 t.place 0 [] []] rest := by
  refine P_of ?_
  simp only [body]
  have hk : kd (t :: u :: rest) = t.kind := rfl
  have hk2 : kd (u :: rest) = u.kind := rfl
  refine Q_no (by omega) ?_
  refine Q_no (by omega) ?_
  refine Q_no (by omega) ?_
  refine Q_no (by omega) ?_
  refine Q_yes (by omega) ?_
  refine Q_want (by assumption) ?_
  refine Q_yes (by omega) ?_
  refine Q_want (by assumption) ?_
  exact Q_mk

theorem I_ret1 {t u : PTok} {s rest : List PTok} {a : List Tr} (ht : t.kind = 24) (hu : u.kind = 47) (g0 : kd s ≠ 47) (g1 : P (.operands 1) s a (u :: rest)) : P .stmt (t :: s) [.mk 38 t.place 0 [] a] rest := by
  refine P_of ?_
  simp only [body]
  have hk : kd (t :: s) = t.kind := rfl
  refine Q_no (by omega) ?_
  refine Q_no (by omega) ?_
  refine Q_no (by omega) ?_
  refine Q_no (by omega) ?_
  refine Q_yes (by omega) ?_
  refine Q_want (by assumption) ?_
  refine Q_no (by omega) ?_
  refine Q_and (by assumption) ?_
  refine Q_want (by assumption) ?_
  exact Q_mk

theorem I_begin {t u : PTok} {s rest : List PTok} {a : List Tr} (ht : t.kind = 11) (hu : u.kind = 47) (g0 : P (.operands 1) s a (u :: rest)) : P .stmt (t :: s) [.mk 39 t.place 0 [] a] rest := by
  refine P_of ?_
  simp only [body]
  have hk : kd (t :: s) = t.kind := rfl
  refine Q_no (by omega) ?_
  refine Q_no (by omega) ?_
  refine Q_no (by omega) ?_
  refine Q_no (by omega) ?_
  refine Q_no (by omega) ?_
  refine Q_yes (by omega) ?_
  refine Q_want (by assumption) ?_
  refine Q_and (by assumption) ?_
  refine Q_want (by assumption) ?_
  exact Q_mk

theorem I_select {t u : PTok} {s rest : List PTok} {a : List Tr} (ht : t.kind = 25) (hu : u.kind = 44) (g0 : P .arms s a rest) : P .stmt (t :: u :: s) [.mk 40 t.place 0 [] a] rest := by
  refine P_of ?_
  simp only [body]
  have hk : kd (t :: u :: s) = t.kind := rfl
  refine Q_no (by omega) ?_
  refine Q_no (by omega) ?_
  refine Q_no (by omega) ?_
  refine Q_no (by omega) ?_
  refine Q_no (by omega) ?_
  refine Q_no (by omega) ?_
  refine Q_yes (by omega) ?_
  refine Q_want (by assumption) ?_
  refine Q_want (by assumption) ?_
  refine Q_and (by assumption) ?_
  exact Q_mk

theorem I_blockS {t : PTok} {s rest : List PTok} {a : List Tr} (ht : t.kind = 44) (g0 : P .block (t :: s) a rest) : P .stmt (t :: s) a rest := by
  refine P_of ?_
  simp only [body]
  have hk : kd (t :: s) = t.kind := rfl
  refine Q_no (by omega) ?_
  refine Q_no (by omega) ?_
  refine Q_no (by omega) ?_
  refine Q_no (by omega) ?_
  refine Q_no (by omega) ?_
  refine Q_no (by omega) ?_
  refine Q_no (by omega) ?_
  refine Q_yes (by omega) ?_
  exact Q_P (by assumption)

theorem I_set {t u : PTok} {s s1 rest : List PTok} {a b : List Tr} (ht : t.kind = 50) (hu : u.kind = 47) (g0 : kd s ≠ 28) (g1 : kd s ≠ 29) (g2 : kd s ≠ 18) (g3 : kd s ≠ 30) (g4 : kd s ≠ 24) (g5 : kd s ≠ 11) (g6 : kd s ≠ 25) (g7 : kd s ≠ 44) (g8 : P (.operands 1) s a (t :: s1)) (g9 : P (.operands 1) s1 b (u :: rest)) : P .stmt (s) [.mk 33 t.place 0 [] (a ++ b)] rest := by
  refine P_of ?_
  simp only [body]
  have hk2 : kd (t :: s1) = t.kind := rfl
  refine Q_no (by omega) ?_
  refine Q_no (by omega) ?_
  refine Q_no (by omega) ?_
  refine Q_no (by omega) ?_
  refine Q_no (by omega) ?_
  refine Q_no (by omega) ?_
  refine Q_no (by omega) ?_
  refine Q_no (by omega) ?_
  refine Q_and (by assumption) ?_
  refine Q_yes (by omega) ?_
  refine Q_want (by assumption) ?_
  refine Q_and (by assumption) ?_
  refine Q_want (by assumption) ?_
  exact Q_mk

theorem I_send {t u : PTok} {s s1 rest : List PTok} {a b : List Tr} (ht : t.kind = 66) (hu : u.kind = 47) (g0 : kd s ≠ 28) (g1 : kd s ≠ 29) (g2 : kd s ≠ 18) (g3 : kd s ≠ 30) (g4 : kd s ≠ 24) (g5 : kd s ≠ 11) (g6 : kd s ≠ 25) (g7 : kd s ≠ 44) (g8 : P (.operands 1) s a (t :: s1)) (g9 : P (.operands 1) s1 b (u :: rest)) : P .stmt (s) [.mk 34 t.place 0 [] (a ++ b)] rest := by
  refine P_of ?_
  simp only [body]
  have hk2 : kd (t :: s1) = t.kind := rfl
  refine Q_no (by omega) ?_
  refine Q_no (by omega) ?_
  refine Q_no (by omega) ?_
  refine Q_no (by omega) ?_
  refine Q_no (by omega) ?_
  refine Q_no (by omega) ?_
  refine Q_no (by omega) ?_
  refine Q_no (by omega) ?_
  refine Q_and (by assumption) ?_
  refine Q_no (by omega) ?_
  refine Q_yes (by omega) ?_
  refine Q_want (by assumption) ?_
  refine Q_and (by assumption) ?_
  refine Q_want (by assumption) ?_
  exact Q_mk

theorem I_do {u : PTok} {s rest : List PTok} {a : List Tr} (hu : u.kind = 47) (g0 : kd s ≠ 28) (g1 : kd s ≠ 29) (g2 : kd s ≠ 18) (g3 : kd s ≠ 30) (g4 : kd s ≠ 24) (g5 : kd s ≠ 11) (g6 : kd s ≠ 25) (g7 : kd s ≠ 44) (g8 : P (.operands 1) s a (u :: rest)) : P .stmt (s) [.mk 35 (hd s).place 0 [] a] rest := by
  refine P_of ?_
  simp only [body]
  have hk2 : kd (u :: rest) = u.kind := rfl
  refine Q_no (by omega) ?_
  refine Q_no (by omega) ?_
  refine Q_no (by omega) ?_
  refine Q_no (by omega) ?_
  refine Q_no (by omega) ?_
  refine Q_no (by omega) ?_
  refine Q_no (by omega) ?_
  refine Q_no (by omega) ?_
  refine Q_and (by assumption) ?_
  refine Q_no (by omega) ?_
  refine Q_no (by omega) ?_
  refine Q_want (by assumption) ?_
  exact Q_mk

theorem I_br2 {t : PTok} {s s1 rest : List PTok} {a b : List Tr} (ht : t.kind = 18) (g0 : P (.operands 1) s a s1) (g1 : P .block s1 b rest) (g2 : kd rest ≠ 15) : P .branch (t :: s) [.mk 36 t.place 0 [] (a ++ b)] rest := by
  refine P_of ?_
  simp only [body]
  have hk : kd (t :: s) = t.kind := rfl
  refine Q_want (by assumption) ?_
  refine Q_and (by assumption) ?_
  refine Q_and (by assumption) ?_
  refine Q_no (by omega) ?_
  exact Q_mk

theorem I_br3i {t u : PTok} {s s1 s2 rest : List PTok} {a b c : List Tr} (ht : t.kind = 18) (hu : u.kind = 15) (g0 : P (.operands 1) s a s1) (g1 : P .block s1 b (u :: s2)) (g2 : kd s2 = 18) (g3 : P .branch s2 c rest) : P .branch (t :: s) [.mk 36 t.place 0 [] (a ++ (b ++ c))] rest := by
  refine P_of ?_
  simp only [body]
  have hk : kd (t :: s) = t.kind := rfl
  have hk2 : kd (u :: s2) = u.kind := rfl
  refine Q_want (by assumption) ?_
  refine Q_and (by assumption) ?_
  refine Q_and (by assumption) ?_
  refine Q_yes (by omega) ?_
  refine Q_want (by assumption) ?_
  refine Q_yes (by omega) ?_
  refine Q_and (by assumption) ?_
  exact Q_mk

theorem I_br3b {t u : PTok} {s s1 s2 rest : List PTok} {a b c : List Tr} (ht : t.kind = 18) (hu : u.kind = 15) (g0 : P (.operands 1) s a s1) (g1 : P .block s1 b (u :: s2)) (g2 : kd s2 ≠ 18) (g3 : P .block s2 c rest) : P .branch (t :: s) [.mk 36 t.place 0 [] (a ++ (b ++ c))] rest := by
  refine P_of ?_
  simp only [body]
  have hk : kd (t :: s) = t.kind := rfl
  have hk2 : kd (u :: s2) = u.kind := rfl
  refine Q_want (by assumption) ?_
  refine Q_and (by assumption) ?_
  refine Q_and (by assumption) ?_
  refine Q_yes (by omega) ?_
  refine Q_want (by assumption) ?_
  refine Q_no (by omega) ?_
  refine Q_and (by assumption) ?_
  exact Q_mk

theorem I_arms0 {t : PTok} {rest : List PTok} (ht : t.kind = 45) : P .arms (t :: rest) [] rest := by
  refine P_of ?_
  simp only [body]
  have hk : kd (t :: rest) = t.kind := rfl
  refine Q_yes (by omega) ?_
  exact Q_ok _ _

theorem I_arms1  {s s1 rest : List PTok} {a b : List Tr} (g0 : kd s ≠ 45) (g1 : P .arm s a s1) (g2 : P .arms s1 b rest) : P .arms (s) (a ++ b) rest := by
  refine P_of ?_
  simp only [body]
  refine Q_no (by omega) ?_
  refine Q_and (by assumption) ?_
  refine Q_and (by assumption) ?_
  exact Q_ok _ _

theorem I_recv0 {t u : PTok} {s s1 rest : List PTok} {a b : List Tr} (ht : t.kind = 13) (hu : u.kind = 65) (g0 : P .unary s a s1) (g1 : P .block s1 b rest) : P .arm (t :: u :: s) [.mk 43 t.place 0 [] (a ++ b)] rest := by
  refine P_of ?_
  simp only [body]
  have hk : kd (t :: u :: s) = t.kind := rfl
  have hk2 : kd (u :: s) = u.kind := rfl
  refine Q_want (by assumption) ?_
  refine Q_yes (by omega) ?_
  refine Q_want (by assumption) ?_
  refine Q_and (by assumption) ?_
  refine Q_and (by assumption) ?_
  exact Q_mk

theorem I_recv1 {t u v x : PTok} {s s1 rest : List PTok} {a b : List Tr} (ht : t.kind = 13) (hu : u.kind = 1) (hv : v.kind = 50) (hx : x.kind = 65) (g0 : P .unary s a s1) (g1 : P .block s1 b rest) : P .arm (t :: u :: v :: x :: s) [.mk 43 t.place 0 u.name (a ++ b)] rest := by
  refine P_of ?_
  simp only [body]
  have hk : kd (t :: u :: v :: x :: s) = t.kind := rfl
  have hk2 : kd (u :: v :: x :: s) = u.kind := rfl
  have hk3 : kd (tl (u :: v :: x :: s)) = v.kind := rfl
  refine Q_want (by assumption) ?_
  refine Q_no (by omega) ?_
  refine Q_yes (by omega) ?_
  refine Q_name (by assumption) ?_
  refine Q_want (by assumption) ?_
  refine Q_want (by assumption) ?_
  refine Q_and (by assumption) ?_
  refine Q_and (by assumption) ?_
  exact Q_mk

theorem I_sendA {t u : PTok} {s s1 s2 rest : List PTok} {a b c : List Tr} (ht : t.kind = 13) (hu : u.kind = 66) (g0 : kd s ≠ 65) (g1 : ¬ (kd s = 1 ∧ kd (tl s) = 50)) (g2 : P (.operands 1) s a (u :: s1)) (g3 : P (.operands 1) s1 b s2) (g4 : P .block s2 c rest) : P .arm (t :: s) [.mk 44 t.place 0 [] (a ++ (b ++ c))] rest := by
  refine P_of ?_
  simp only [body]
  have hk : kd (t :: s) = t.kind := rfl
  refine Q_want (by assumption) ?_
  refine Q_no (by omega) ?_
  refine Q_no (by omega) ?_
  refine Q_and (by assumption) ?_
  refine Q_want (by assumption) ?_
  refine Q_and (by assumption) ?_
  refine Q_and (by assumption) ?_
  exact Q_mk

theorem I_tyn {t u v x : PTok} {s rest : List PTok} {a : List Tr} (ht : t.kind = 27) (hu : u.kind = 1) (hv : v.kind = 50) (hx : x.kind = 47) (g0 : P .typ s a (x :: rest)) : P .tyn (t :: u :: v :: s) [.mk 45 t.place 0 u.name a] rest := by
  refine P_of ?_
  simp only [body]
  have hk : kd (t :: u :: v :: s) = t.kind := rfl
  refine Q_want (by assumption) ?_
  refine Q_name (by assumption) ?_
  refine Q_want (by assumption) ?_
  refine Q_and (by assumption) ?_
  refine Q_want (by assumption) ?_
  exact Q_mk

theorem I_types0  {s : List PTok} (g0 : kd s ≠ 27) : P .types (s) [] s := by
  refine P_of ?_
  simp only [body]
  refine Q_no (by omega) ?_
  exact Q_ok _ _

theorem I_types1  {s s1 rest : List PTok} {a b : List Tr} (g0 : kd s = 27) (g1 : P .tyn s a s1) (g2 : P .types s1 b rest) : P .types (s) (a ++ b) rest := by
  refine P_of ?_
  simp only [body]
  refine Q_yes (by omega) ?_
  refine Q_and (by assumption) ?_
  refine Q_and (by assumption) ?_
  exact Q_ok _ _

theorem I_tops0  {s : List PTok} (g0 : s.length ≤ 1) : P .tops (s) [] s := by
  refine P_of ?_
  simp only [body]
  refine Q_yes (by omega) ?_
  exact Q_ok _ _

theorem I_tops1  {s s1 rest : List PTok} {a b : List Tr} (g0 : 1 < s.length) (g1 : P .stmt s a s1) (g2 : P .tops s1 b rest) : P .tops (s) (a ++ b) rest := by
  refine P_of ?_
  simp only [body]
  refine Q_no (by omega) ?_
  refine Q_and (by assumption) ?_
  refine Q_and (by assumption) ?_
  exact Q_ok _ _

theorem I_program  {s s1 rest : List PTok} {a b : List Tr} (g0 : P .types s a s1) (g1 : P .tops s1 b rest) : P .program (s) [.mk 46 0 a.length [] (a ++ b)] rest := by
  refine P_of ?_
  simp only [body]
  refine Q_and (by assumption) ?_
  refine Q_and (by assumption) ?_
  exact Q_ok _ _
end Go.Proofs.YtpgobebibjeglaaDoor
