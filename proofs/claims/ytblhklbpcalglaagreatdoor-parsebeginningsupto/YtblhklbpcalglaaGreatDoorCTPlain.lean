namespace Go.Proofs.YtblhklbpcalglaaGreatDoor
structure Nd where
  kind : Int
  pos : Int
  kids : List Int
  name : ByteArray
  num : Int
def nd0 : Nd := ⟨0, 0, [], ⟨#[]⟩, 0⟩
def typI (k : Int) : Bool := decide (1 ≤ k) && decide (k ≤ 7)
def exprI (k : Int) : Bool := decide (11 ≤ k) && decide (k ≤ 25)
def statI (k : Int) : Bool := decide (31 ≤ k) && decide (k ≤ 41)
def kindI (k : Int) : Bool := typI k || exprI k || statI k || (decide (42 ≤ k) && decide (k ≤ 46))
def armI (k : Int) : Bool := k == 43 || k == 44
def elseI (k : Int) : Bool := k == 41 || k == 36
def justI (a k : Int) : Bool := k == a
def binLevelI (op : Int) : Int :=
  if op = 11 then 1 else if op = 12 then 2 else if 21 ≤ op ∧ op ≤ 26 then 3 else if op = 31 ∨ op = 32 then 4 else if 41 ≤ op ∧ op ≤ 43 then 5 else 0
def levelI (kind num : Int) : Int :=
  if kind = 22 then binLevelI num else if kind = 21 then (if 1 ≤ num ∧ num ≤ 3 then 6 else 0) else if 23 ≤ kind ∧ kind ≤ 25 then 7 else if exprI kind then 8 else 0
def mayL {α : Type} (p : α → Bool) : List α → List α
  | [] => []
  | k :: r => if p k then r else k :: r
def took {α : Type} (p : α → Bool) : List α → Bool
  | [] => false
  | k :: _ => p k
def cMay {α : Type} (p : α → Bool) (s : List α × Bool) : List α × Bool := (mayL p s.1, s.2)
def cOne {α : Type} (p : α → Bool) (s : List α × Bool) : List α × Bool := (mayL p s.1, s.2 || !took p s.1)
def cMany {α : Type} (p : α → Bool) (s : List α × Bool) : List α × Bool := (s.1.dropWhile p, s.2)
def cIter {α : Type} (p : α → Bool) : Nat → List α × Bool → List α × Bool
  | 0, s => s
  | n + 1, s => cIter p n (cOne p s)
def kidsRun {α : Type} (f : α → Int) (kind num : Int) (s : List α × Bool) : List α × Bool :=
  if kind = 5 then cMany (typI ∘ f) (cOne (typI ∘ f) (cOne (typI ∘ f) s))
  else if kind = 7 then cMany (typI ∘ f) s
  else if kind = 4 ∨ kind = 6 ∨ kind = 42 ∨ kind = 45 then cOne (typI ∘ f) s
  else if kind = 15 then cMany (exprI ∘ f) (cOne (exprI ∘ f) (cOne (exprI ∘ f) s))
  else if kind = 16 ∨ kind = 23 then cMany (exprI ∘ f) (cOne (exprI ∘ f) s)
  else if kind = 17 ∨ kind = 22 ∨ kind = 24 ∨ kind = 33 ∨ kind = 34 then cOne (exprI ∘ f) (cOne (exprI ∘ f) s)
  else if kind = 14 ∨ kind = 18 ∨ kind = 21 ∨ kind = 25 ∨ kind = 31 ∨ kind = 35 ∨ kind = 39 then cOne (exprI ∘ f) s
  else if kind = 19 then cOne (justI 6 ∘ f) s
  else if kind = 20 then cOne (justI 41 ∘ f) (if num = 1 then cOne (typI ∘ f) (cMany (justI 42 ∘ f) s) else cMany (justI 42 ∘ f) s)
  else if kind = 32 then cMay (exprI ∘ f) (cOne (typI ∘ f) s)
  else if kind = 38 then cMay (exprI ∘ f) s
  else if kind = 44 then cOne (justI 41 ∘ f) (cOne (exprI ∘ f) (cOne (exprI ∘ f) s))
  else if kind = 37 ∨ kind = 43 then cOne (justI 41 ∘ f) (cOne (exprI ∘ f) s)
  else if kind = 36 then cMay (elseI ∘ f) (cOne (justI 41 ∘ f) (cOne (exprI ∘ f) s))
  else if kind = 40 then cMany (armI ∘ f) s
  else if kind = 46 then cMany (statI ∘ f) (cIter (justI 45 ∘ f) num.toNat s)
  else if kind = 41 then cMany (statI ∘ f) s
  else s
def fitS {α : Type} (s : List α × Bool) : Bool := !s.2 && s.1.length == 0
def kidsFitI {α : Type} (f : α → Int) (kind num : Int) (ks : List α) : Bool := fitS (kidsRun f kind num (ks, false))
def numFitsI (kind num : Int) (n : Nat) : Bool :=
  if kind = 7 then num == 0 || (num == 1 && decide (0 < n))
  else if kind = 12 ∨ kind = 20 then num == 0 || num == 1
  else if kind = 11 ∨ kind = 25 then decide (0 ≤ num)
  else if kind = 21 ∨ kind = 22 then levelI kind num != 0
  else if kind = 46 then decide (0 ≤ num) && decide (num ≤ n)
  else num == 0
def ndN (l : List Nd) (i : Nat) : Nd := l.getD i nd0
def ndAt (l : List Nd) (i : Int) : Nd := l.getD i.toNat nd0
def kdN (l : List Nd) (i : Nat) : Int := (ndN l i).kind
def wantedI (kind num : Int) (place : Nat) : Int :=
  if kind = 22 then (if place = 0 ∧ levelI kind num ≠ 3 then levelI kind num else levelI kind num + 1)
  else if kind = 21 then 6
  else if 23 ≤ kind ∧ kind ≤ 25 then (if place = 0 then 7 else 0)
  else if kind = 43 then (if place = 0 then 6 else 0)
  else 0
def levelsGo (l : List Nd) (n : Nd) : Nat → List Int → Bool
  | _, [] => true
  | p, k :: r => if levelI (ndAt l k).kind (ndAt l k).num < wantedI n.kind n.num p then false else levelsGo l n (p + 1) r
def beginsI (l : List Nd) : Nat → Int → Bool
  | 0, _ => false
  | f + 1, k => if 22 ≤ (ndAt l k).kind ∧ (ndAt l k).kind ≤ 25 then beginsI l f ((ndAt l k).kids.getD 0 0) else (ndAt l k).kind == 21 && (ndAt l k).num == 3
def levelsFitI (l : List Nd) (n : Nd) : Bool :=
  levelsGo l n 0 n.kids && (n.kind != 44 || !beginsI l (l.length + 1) (n.kids.getD 0 0))
def orderGo (fs : List Nat) : Int → List Int → Bool
  | _, [] => true
  | next, k :: r => if k = next - 1 ∧ 0 ≤ k then orderGo fs (fs.getD k.toNat 0) r else false
def orderI (fs : List Nat) (i : Nat) (kids : List Int) : Bool := orderGo fs i kids.reverse
end Go.Proofs.YtblhklbpcalglaaGreatDoor
namespace Go.Proofs.YtblhklbpcalglaaGreatDoor
set_option linter.unusedVariables false
set_option linter.unusedSimpArgs false
structure PTok where
  kind : Nat
  place : Nat
  num : Nat
  name : List UInt8
def pt0 : PTok := ⟨0, 0, 0, []⟩
inductive Tr where
  | mk (kind : Int) (pos : Nat) (num : Int) (name : List UInt8) (kids : List Tr)
inductive Res where
  | ok (ts : List Tr) (s : List PTok)
  | err (s : List PTok)
  | out
def hd (s : List PTok) : PTok := s.headD pt0
def kd (s : List PTok) : Nat := (hd s).kind
def tl (s : List PTok) : List PTok := s.tail
def andT (r : Res) (k : List Tr → List PTok → Res) : Res :=
  match r with
  | .ok a s => k a s
  | .err s => .err s
  | .out => .out
def want (c : Nat) (s : List PTok) (k : List PTok → Res) : Res := if kd s = c then k (tl s) else .err s
def nameK (s : List PTok) (k : List UInt8 → List PTok → Res) : Res := if kd s = 1 then k (hd s).name (tl s) else .err s
def numK (s : List PTok) (k : Nat → List PTok → Res) : Res := if kd s = 2 then k (hd s).num (tl s) else .err s
def mk1 (kind : Int) (s : List PTok) (num : Int) (name : List UInt8) (kids : List Tr) (r : List PTok) : Res := .ok [.mk kind (hd s).place num name kids] r
inductive One where
  | typ | expr | param
inductive Rl where
  | typ | chanT | parted (o : One) | listed (o : One) | result
  | operands (least : Int) | ops (least : Int) (left : List Tr) (most : Int) | unary | postfix | post (kid : List Tr) | primary | prog | param
  | block | stmts | stmt | branch | arms | arm | tyn | types | tops | program
def Rl.of : One → Rl
  | .typ => .typ
  | .expr => .operands 1
  | .param => .param
def betw (k : Nat) : Int :=
  if k = 63 then 11 else if k = 62 then 12 else if k = 51 then 21 else if k = 52 then 22 else if k = 53 then 23 else if k = 54 then 24 else if k = 55 then 25 else if k = 56 then 26
  else if k = 57 then 31 else if k = 58 then 32 else if k = 59 then 41 else if k = 60 then 42 else if k = 61 then 43 else 0
def body (g : Rl → List PTok → Res) : Rl → List PTok → Res
  | .typ, s =>
    if kd s = 19 then mk1 1 s 0 [] [] (tl s)
    else if kd s = 12 then mk1 2 s 0 [] [] (tl s)
    else if kd s = 10 then want 10 s fun s1 => want 22 s1 fun s2 => andT (g .typ s2) fun a s3 => mk1 4 s 0 [] a s3
    else if kd s = 14 then g .chanT s
    else if kd s = 40 then want 40 s fun s1 => andT (g .typ s1) fun a s2 => want 46 s2 fun s3 => andT (g (.parted .typ) s3) fun b s4 => want 41 s4 fun s5 => mk1 5 s 0 [] (a ++ b) s5
    else if kd s = 23 then want 23 s fun s1 => andT (g (.listed .typ) s1) fun a s2 => andT (g .result s2) fun b s3 => mk1 7 s b.length [] (a ++ b) s3
    else nameK s fun n s1 => mk1 3 s 0 n [] s1
  | .chanT, s => want 14 s fun s1 => want 22 s1 fun s2 => andT (g .typ s2) fun a s3 => mk1 6 s 0 [] a s3
  | .parted o, s => andT (g (.of o) s) fun a s1 => if kd s1 = 46 then andT (g (.parted o) (tl s1)) fun b s2 => .ok (a ++ b) s2 else .ok a s1
  | .listed o, s => want 40 s fun s1 => if kd s1 = 41 then .ok [] (tl s1) else andT (g (.parted o) s1) fun a s2 => want 41 s2 fun s3 => .ok a s3
  | .result, s => if kd s = 48 then g .typ (tl s) else .ok [] s
  | .operands least, s => andT (g .unary s) fun a s1 => g (.ops least a 5) s1
  | .ops least left most, s =>
    if binLevelI (betw (kd s)) < least ∨ most < binLevelI (betw (kd s)) then .ok left s
    else andT (g (.operands (binLevelI (betw (kd s)) + 1)) (tl s)) fun b s2 => g (.ops least [.mk 22 (hd s).place (betw (kd s)) [] (left ++ b)] (if binLevelI (betw (kd s)) = 3 then 2 else binLevelI (betw (kd s)))) s2
  | .unary, s =>
    if kd s = 58 then andT (g .unary (tl s)) fun a s1 => mk1 21 s 1 [] a s1
    else if kd s = 64 then andT (g .unary (tl s)) fun a s1 => mk1 21 s 2 [] a s1
    else if kd s = 65 then andT (g .unary (tl s)) fun a s1 => mk1 21 s 3 [] a s1
    else g .postfix s
  | .postfix, s => andT (g .primary s) fun a s1 => g (.post a) s1
  | .post kid, s =>
    if kd s = 40 then andT (g (.listed .expr) s) fun b s1 => g (.post [.mk 23 (hd s).place 0 [] (kid ++ b)]) s1
    else if kd s = 42 then want 42 s fun s1 => andT (g (.operands 1) s1) fun b s2 => want 43 s2 fun s3 => g (.post [.mk 24 (hd s).place 0 [] (kid ++ b)]) s3
    else if kd s = 49 then want 49 s fun s1 => numK s1 fun n s2 => g (.post [.mk 25 (hd s).place n [] kid]) s2
    else .ok kid s
  | .primary, s =>
    if kd s = 26 then mk1 12 s 1 [] [] (tl s)
    else if kd s = 16 then mk1 12 s 0 [] [] (tl s)
    else if kd s = 40 then want 40 s fun s1 => andT (g (.parted .expr) s1) fun a s2 => want 41 s2 fun s3 => mk1 (if a.length = 1 then 14 else 15) s 0 [] a s3
    else if kd s = 42 then want 42 s fun s1 => andT (g (.parted .expr) s1) fun a s2 => want 43 s2 fun s3 => mk1 16 s 0 [] a s3
    else if kd s = 17 then want 17 s fun s1 => want 40 s1 fun s2 => andT (g (.operands 1) s2) fun a s3 => want 46 s3 fun s4 => andT (g (.operands 1) s4) fun b s5 => want 41 s5 fun s6 => mk1 17 s 0 [] (a ++ b) s6
    else if kd s = 20 then want 20 s fun s1 => want 40 s1 fun s2 => andT (g (.operands 1) s2) fun a s3 => want 41 s3 fun s4 => mk1 18 s 0 [] a s4
    else if kd s = 21 then want 21 s fun s1 => andT (g .chanT s1) fun a s2 => mk1 19 s 0 [] a s2
    else if kd s = 23 then g .prog s
    else if kd s = 2 then numK s fun n s1 => mk1 11 s n [] [] s1
    else nameK s fun n s1 => mk1 13 s 0 n [] s1
  | .prog, s => want 23 s fun s1 =>
    if kd s1 = 1 then nameK s1 fun n s2 => andT (g (.listed .param) s2) fun a s3 => andT (g .result s3) fun b s4 => andT (g .block s4) fun c s5 => mk1 20 s b.length n (a ++ (b ++ c)) s5
    else andT (g (.listed .param) s1) fun a s3 => andT (g .result s3) fun b s4 => andT (g .block s4) fun c s5 => mk1 20 s b.length [] (a ++ (b ++ c)) s5
  | .param, s => nameK s fun n s1 => want 48 s1 fun s2 => andT (g .typ s2) fun a s3 => mk1 42 s 0 n a s3
  | .block, s => want 44 s fun s1 => andT (g .stmts s1) fun a s2 => mk1 41 s 0 [] a s2
  | .stmts, s => if kd s = 45 then .ok [] (tl s) else andT (g .stmt s) fun a s1 => andT (g .stmts s1) fun b s2 => .ok (a ++ b) s2
  | .stmt, s =>
    if kd s = 28 then want 28 s fun s1 => nameK s1 fun n s2 => want 50 s2 fun s3 => andT (g (.operands 1) s3) fun a s4 => want 47 s4 fun s5 => mk1 31 s 0 n a s5
    else if kd s = 29 then want 29 s fun s1 => nameK s1 fun n s2 => want 48 s2 fun s3 => andT (g .typ s3) fun a s4 =>
      if kd s4 = 50 then want 50 s4 fun s5 => andT (g (.operands 1) s5) fun b s6 => want 47 s6 fun s7 => mk1 32 s 0 n (a ++ b) s7 else want 47 s4 fun s5 => mk1 32 s 0 n a s5
    else if kd s = 18 then g .branch s
    else if kd s = 30 then want 30 s fun s1 => andT (g (.operands 1) s1) fun a s2 => andT (g .block s2) fun b s3 => mk1 37 s 0 [] (a ++ b) s3
    else if kd s = 24 then want 24 s fun s1 => if kd s1 = 47 then want 47 s1 fun s2 => mk1 38 s 0 [] [] s2 else andT (g (.operands 1) s1) fun a s2 => want 47 s2 fun s3 => mk1 38 s 0 [] a s3
    else if kd s = 11 then want 11 s fun s1 => andT (g (.operands 1) s1) fun a s2 => want 47 s2 fun s3 => mk1 39 s 0 [] a s3
    else if kd s = 25 then want 25 s fun s1 => want 44 s1 fun s2 => andT (g .arms s2) fun a s3 => mk1 40 s 0 [] a s3
    else if kd s = 44 then g .block s
    else andT (g (.operands 1) s) fun a s1 =>
      if kd s1 = 50 then want 50 s1 fun s2 => andT (g (.operands 1) s2) fun b s3 => want 47 s3 fun s4 => mk1 33 s1 0 [] (a ++ b) s4
      else if kd s1 = 66 then want 66 s1 fun s2 => andT (g (.operands 1) s2) fun b s3 => want 47 s3 fun s4 => mk1 34 s1 0 [] (a ++ b) s4
      else want 47 s1 fun s2 => mk1 35 s 0 [] a s2
  | .branch, s => want 18 s fun s1 => andT (g (.operands 1) s1) fun a s2 => andT (g .block s2) fun b s3 =>
    if kd s3 = 15 then want 15 s3 fun s4 => if kd s4 = 18 then andT (g .branch s4) fun c s5 => mk1 36 s 0 [] (a ++ (b ++ c)) s5 else andT (g .block s4) fun c s5 => mk1 36 s 0 [] (a ++ (b ++ c)) s5
    else mk1 36 s 0 [] (a ++ b) s3
  | .arms, s => if kd s = 45 then .ok [] (tl s) else andT (g .arm s) fun a s1 => andT (g .arms s1) fun b s2 => .ok (a ++ b) s2
  | .arm, s => want 13 s fun s1 =>
    if kd s1 = 65 then want 65 s1 fun s2 => andT (g .unary s2) fun a s3 => andT (g .block s3) fun b s4 => mk1 43 s 0 [] (a ++ b) s4
    else if kd s1 = 1 ∧ kd (tl s1) = 50 then nameK s1 fun n s2 => want 50 s2 fun s3 => want 65 s3 fun s4 => andT (g .unary s4) fun a s5 => andT (g .block s5) fun b s6 => mk1 43 s 0 n (a ++ b) s6
    else andT (g (.operands 1) s1) fun a s2 => want 66 s2 fun s3 => andT (g (.operands 1) s3) fun b s4 => andT (g .block s4) fun c s5 => mk1 44 s 0 [] (a ++ (b ++ c)) s5
  | .tyn, s => want 27 s fun s1 => nameK s1 fun n s2 => want 50 s2 fun s3 => andT (g .typ s3) fun a s4 => want 47 s4 fun s5 => mk1 45 s 0 n a s5
  | .types, s => if kd s = 27 then andT (g .tyn s) fun a s1 => andT (g .types s1) fun b s2 => .ok (a ++ b) s2 else .ok [] s
  | .tops, s => if s.length ≤ 1 then .ok [] s else andT (g .stmt s) fun a s1 => andT (g .tops s1) fun b s2 => .ok (a ++ b) s2
  | .program, s => andT (g .types s) fun a s1 => andT (g .tops s1) fun b s2 => .ok [.mk 46 0 a.length [] (a ++ b)] s2
def pF : Nat → Rl → List PTok → Res
  | 0, _, _ => .out
  | f + 1, r, s => body (pF f) r s
def Le (a b : Res) : Prop := ∀ t s, a = .ok t s → b = .ok t s
theorem le_refl (a : Res) : Le a a := fun _ _ h => h
def P (r : Rl) (s : List PTok) (ts : List Tr) (s' : List PTok) : Prop := ∃ f, pF f r s = .ok ts s'
def Q (G : (Rl → List PTok → Res) → Res) (ts : List Tr) (s' : List PTok) : Prop := ∃ f, ∀ f', f ≤ f' → G (pF f') = .ok ts s'
end Go.Proofs.YtblhklbpcalglaaGreatDoor
namespace Go.Proofs.YtblhklbpcalglaaGreatDoor
set_option linter.unusedVariables false
set_option linter.unusedSimpArgs false
def rank : Rl → Nat
  | .typ => 1 | .chanT => 0 | .parted _ => 5 | .listed _ => 0 | .result => 0
  | .operands _ => 4 | .ops _ _ _ => 0 | .unary => 3 | .postfix => 2 | .post _ => 1 | .primary => 1 | .prog => 0 | .param => 0
  | .block => 0 | .stmts => 6 | .stmt => 5 | .branch => 0 | .arms => 1 | .arm => 0 | .tyn => 0 | .types => 1 | .tops => 6 | .program => 7
def need : Rl → Nat
  | .typ => 1 | .chanT => 1 | .parted _ => 1 | .listed _ => 1 | .result => 0
  | .operands _ => 1 | .ops _ _ _ => 0 | .unary => 1 | .postfix => 1 | .post _ => 0 | .primary => 1 | .prog => 1 | .param => 1
  | .block => 1 | .stmts => 1 | .stmt => 1 | .branch => 1 | .arms => 1 | .arm => 1 | .tyn => 1 | .types => 0 | .tops => 0 | .program => 0
def Wr : Rl → Prop
  | .operands n => 1 ≤ n
  | .ops n _ _ => 1 ≤ n
  | _ => True
theorem wr_of (o : One) : Wr (.of o) ∧ need (.of o) = 1 ∧ rank (.of o) ≤ 4 := by cases o <;> simp [Rl.of, Wr, need, rank]
def TlF (s : List PTok) : Prop := kd s ≠ 0 → (tl s).length + 1 = s.length
theorem tl_lenP (s : List PTok) : TlF s := fun h => by
  cases s with
  | nil => exact absurd rfl h
  | cons a r => rfl
def Sh (n d : Nat) : Res → Prop
  | .ok _ s => s.length + d ≤ n
  | _ => True
theorem sh_le {M d N D : Nat} {x : Res} (h : Sh M d x) (he : M + D ≤ N + d) : Sh N D x := by
  cases x with
  | ok a s => simp only [Sh] at h ⊢; omega
  | err s => trivial
  | out => trivial
theorem sh_and {M d N D : Nat} {x : Res} {k : List Tr → List PTok → Res} (h : Sh M d x) (hk : ∀ a s, s.length + d ≤ M → TlF s → Sh N D (k a s)) : Sh N D (andT x k) := by
  cases x with
  | ok a s => exact hk a s h (tl_lenP s)
  | err s => trivial
  | out => trivial
theorem sh_want {N D c : Nat} {s : List PTok} {k : List PTok → Res} (hc : c ≠ 0) (hk : kd s = c → (tl s).length + 1 = s.length → TlF (tl s) → Sh N D (k (tl s))) : Sh N D (want c s k) := by
  unfold want
  split
  · rename_i h
    exact hk h (tl_lenP s (by omega)) (tl_lenP _)
  · trivial
theorem sh_name {N D : Nat} {s : List PTok} {k : List UInt8 → List PTok → Res} (hk : (tl s).length + 1 = s.length → TlF (tl s) → Sh N D (k (hd s).name (tl s))) : Sh N D (nameK s k) := by
  unfold nameK
  split
  · rename_i h
    exact hk (tl_lenP s (by omega)) (tl_lenP _)
  · trivial
theorem sh_num {N D : Nat} {s : List PTok} {k : Nat → List PTok → Res} (hk : (tl s).length + 1 = s.length → TlF (tl s) → Sh N D (k (hd s).num (tl s))) : Sh N D (numK s k) := by
  unfold numK
  split
  · rename_i h
    exact hk (tl_lenP s (by omega)) (tl_lenP _)
  · trivial
theorem sh_if {N D : Nat} {p : Prop} [Decidable p] {a b : Res} (h1 : p → Sh N D a) (h2 : ¬ p → Sh N D b) : Sh N D (if p then a else b) := by
  split
  · rename_i h; exact h1 h
  · rename_i h; exact h2 h
theorem sh_mk {N D : Nat} {kind num : Int} {s r : List PTok} {name : List UInt8} {kids : List Tr} (h : r.length + D ≤ N) : Sh N D (mk1 kind s num name kids r) := h
theorem sh_ok {N D : Nat} {a : List Tr} {r : List PTok} (h : r.length + D ≤ N) : Sh N D (.ok a r) := h
theorem betw_zero {k : Nat} (h : 1 ≤ binLevelI (betw k)) : k ≠ 0 := by
  intro e
  subst e
  have : binLevelI (betw 0) = 0 := by decide
  omega
theorem body_sh {g : Rl → List PTok → Res} (H : ∀ r s, Wr r → Sh s.length (need r) (g r s)) (r : Rl) (s : List PTok) (hr : Wr r) : Sh s.length (need r) (body g r s) := by
  have e0 := tl_lenP s
  have L : ∀ {r s} {N D : Nat}, Wr r → s.length + D ≤ N + need r → Sh N D (g r s) := fun hw he => sh_le (H _ _ hw) he
  cases r
  case ops least left most =>
    unfold body
    have hr : 1 ≤ least := hr
    refine sh_if (fun h => sh_ok (by simp [need])) (fun h => ?_)
    have h1 : 1 ≤ binLevelI (betw (kd s)) := by omega
    have h2 := e0 (betw_zero h1)
    refine sh_and (H (.operands _) _ (by show 1 ≤ _; omega)) (fun a s1 q q2 => ?_)
    exact L (show Wr (.ops _ _ _) from hr) (by simp only [need] at q ⊢; omega)
  case parted o =>
    unfold body
    obtain ⟨w1, w2, w3⟩ := wr_of o
    refine sh_and (H _ _ w1) (fun a s1 q q2 => ?_)
    rw [w2] at q
    refine sh_if (fun h => ?_) (fun h => sh_ok (by simp only [need]; omega))
    have h2 := q2 (by omega)
    refine sh_and (H (.parted o) _ trivial) (fun b s2 p p2 => sh_ok ?_)
    simp only [need] at p ⊢
    omega
  all_goals
    unfold body
    repeat' (first
      | refine sh_want (by decide) (fun h1 h2 h3 => ?_)
      | refine sh_name (fun h2 h3 => ?_)
      | refine sh_num (fun h2 h3 => ?_)
      | refine sh_and (H _ _ (by first | trivial | (show (1 : Int) ≤ 1; decide) | exact hr)) (fun a s1 q q2 => ?_)
      | refine sh_if (fun h => ?_) (fun h => ?_))
    all_goals
      first
      | (refine sh_mk ?_; simp only [need, TlF] at *; omega)
      | (refine sh_ok ?_; simp only [need, TlF] at *; omega)
      | (refine L (by first | trivial | (show (1 : Int) ≤ 1; decide) | exact hr) ?_; simp only [need, TlF] at *; omega)
theorem pF_sh : ∀ (f : Nat) (r : Rl) (s : List PTok), Wr r → Sh s.length (need r) (pF f r s)
  | 0, _, _, _ => trivial
  | f + 1, r, s, h => body_sh (pF_sh f) r s h
def No (x : Res) : Prop := x ≠ .out
theorem no_and {M d : Nat} {x : Res} {k : List Tr → List PTok → Res} (h0 : No x) (h : Sh M d x) (hk : ∀ a s, s.length + d ≤ M → TlF s → No (k a s)) : No (andT x k) := by
  cases x with
  | ok a s => exact hk a s h (tl_lenP s)
  | err s => intro e; cases e
  | out => exact absurd rfl h0
theorem no_want {c : Nat} {s : List PTok} {k : List PTok → Res} (hc : c ≠ 0) (hk : kd s = c → (tl s).length + 1 = s.length → TlF (tl s) → No (k (tl s))) : No (want c s k) := by
  unfold want
  split
  · rename_i h
    exact hk h (tl_lenP s (by omega)) (tl_lenP _)
  · intro e; cases e
theorem no_name {s : List PTok} {k : List UInt8 → List PTok → Res} (hk : (tl s).length + 1 = s.length → TlF (tl s) → No (k (hd s).name (tl s))) : No (nameK s k) := by
  unfold nameK
  split
  · rename_i h
    exact hk (tl_lenP s (by omega)) (tl_lenP _)
  · intro e; cases e
theorem no_num {s : List PTok} {k : Nat → List PTok → Res} (hk : (tl s).length + 1 = s.length → TlF (tl s) → No (k (hd s).num (tl s))) : No (numK s k) := by
  unfold numK
  split
  · rename_i h
    exact hk (tl_lenP s (by omega)) (tl_lenP _)
  · intro e; cases e
theorem no_if {p : Prop} [Decidable p] {a b : Res} (h1 : p → No a) (h2 : ¬ p → No b) : No (if p then a else b) := by
  split
  · rename_i h; exact h1 h
  · rename_i h; exact h2 h
theorem no_mk {kind num : Int} {s r : List PTok} {name : List UInt8} {kids : List Tr} : No (mk1 kind s num name kids r) := fun e => by cases e
theorem no_ok {a : List Tr} {r : List PTok} : No (.ok a r) := fun e => by cases e
set_option maxHeartbeats 1000000 in
theorem body_no {f : Nat} (H : ∀ r s, Wr r → 20 * s.length + rank r < f → No (pF f r s)) (r : Rl) (s : List PTok) (hr : Wr r) (hf : 20 * s.length + rank r < f + 1) : No (body (pF f) r s) := by
  have e0 := tl_lenP s
  have S := pF_sh f
  cases r
  case ops least left most =>
    unfold body
    have hr : 1 ≤ least := hr
    refine no_if (fun h => no_ok) (fun h => ?_)
    have h1 : 1 ≤ binLevelI (betw (kd s)) := by omega
    have h2 := e0 (betw_zero h1)
    simp only [rank] at hf
    have w : Wr (.operands (binLevelI (betw (kd s)) + 1)) := by show (1 : Int) ≤ _; omega
    refine no_and (H _ _ w (by simp only [rank]; omega)) (S _ _ w) (fun a s1 q q2 => ?_)
    simp only [need] at q
    exact H _ _ (show Wr (.ops _ _ _) from hr) (by simp only [rank]; omega)
  case parted o =>
    unfold body
    obtain ⟨w1, w2, w3⟩ := wr_of o
    simp only [rank] at hf
    refine no_and (H _ _ w1 (by omega)) (S _ _ w1) (fun a s1 q q2 => ?_)
    rw [w2] at q
    refine no_if (fun h => ?_) (fun h => no_ok)
    have h2 := q2 (by omega)
    exact no_and (H (.parted o) _ trivial (by simp only [rank]; omega)) (S (.parted o) _ trivial) (fun b s2 p p2 => no_ok)
  all_goals
    unfold body
    repeat' (first
      | exact no_mk
      | exact no_ok
      | refine no_want (by decide) (fun h1 h2 h3 => ?_)
      | refine no_name (fun h2 h3 => ?_)
      | refine no_num (fun h2 h3 => ?_)
      | refine no_and (H _ _ (by first | trivial | (show (1 : Int) ≤ 1; decide) | exact hr) (by simp only [rank, need, TlF] at *; omega)) (S _ _ (by first | trivial | (show (1 : Int) ≤ 1; decide) | exact hr)) (fun a s1 q q2 => ?_)
      | exact H _ _ (by first | trivial | (show (1 : Int) ≤ 1; decide) | exact hr) (by simp only [rank, need, TlF] at *; omega)
      | refine no_if (fun h => ?_) (fun h => ?_))
theorem pF_no : ∀ (f : Nat) (r : Rl) (s : List PTok), Wr r → 20 * s.length + rank r < f → No (pF f r s)
  | 0, _, _, _, h => by omega
  | f + 1, r, s, h, hf => body_no (pF_no f) r s h hf
end Go.Proofs.YtblhklbpcalglaaGreatDoor
