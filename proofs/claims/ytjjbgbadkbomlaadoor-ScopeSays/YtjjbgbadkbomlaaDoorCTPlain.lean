namespace Go.Proofs.YtjjbgbadkbomlaaDoor

/-- a node: its kind, place, kids, name, number -/
structure Nd where
  kind : Int
  pos : Int
  kids : List Int
  name : ByteArray
  num : Int
def nd0 : Nd := ⟨0, 0, [], ⟨#[]⟩, 0⟩

def typI (k : Int) : Bool := decide (1 ≤ k) && decide (k ≤ 7)
def exprI (k : Int) : Bool := decide (11 ≤ k) && decide (k ≤ 25)
def statI (k : Int) : Bool := decide (31 ≤ k) && decide (k ≤ 41)
def kindI (k : Int) : Bool := typI k || exprI k || statI k || (decide (42 ≤ k) && decide (k ≤ 46))
def armI (k : Int) : Bool := k == 43 || k == 44
def elseI (k : Int) : Bool := k == 41 || k == 36
def justI (a k : Int) : Bool := k == a

def binLevelI (op : Int) : Int :=
  if op = 11 then 1 else if op = 12 then 2 else if 21 ≤ op ∧ op ≤ 26 then 3 else if op = 31 ∨ op = 32 then 4 else if 41 ≤ op ∧ op ≤ 43 then 5 else 0
/-- P2.1 -/
def levelI (kind num : Int) : Int :=
  if kind = 22 then binLevelI num else if kind = 21 then (if 1 ≤ num ∧ num ≤ 3 then 6 else 0) else if 23 ≤ kind ∧ kind ≤ 25 then 7 else if exprI kind then 8 else 0
theorem binLevelI_le (op : Int) : 0 ≤ binLevelI op ∧ binLevelI op ≤ 5 := by
  unfold binLevelI
  repeat' split
  all_goals omega
theorem levelI_le (k n : Int) : 0 ≤ levelI k n ∧ levelI k n ≤ 8 := by
  have := binLevelI_le n
  unfold levelI
  repeat' split
  all_goals omega

/-- the kids' taking: what is left, and whether one was missed -/
def mayL {α : Type} (p : α → Bool) : List α → List α
  | [] => []
  | k :: r => if p k then r else k :: r
def took {α : Type} (p : α → Bool) : List α → Bool
  | [] => false
  | k :: _ => p k
def cMay {α : Type} (p : α → Bool) (s : List α × Bool) : List α × Bool := (mayL p s.1, s.2)
def cOne {α : Type} (p : α → Bool) (s : List α × Bool) : List α × Bool := (mayL p s.1, s.2 || !took p s.1)
def cMany {α : Type} (p : α → Bool) (s : List α × Bool) : List α × Bool := (s.1.dropWhile p, s.2)
def cIter {α : Type} (p : α → Bool) : Nat → List α × Bool → List α × Bool
  | 0, s => s
  | n + 1, s => cIter p n (cOne p s)
theorem cIter_succ {α : Type} (p : α → Bool) : ∀ (n : Nat) (s : List α × Bool), cIter p (n + 1) s = cOne p (cIter p n s)
  | 0, s => rfl
  | n + 1, s => by rw [cIter, cIter_succ p n, ← cIter]
def kidsRun {α : Type} (f : α → Int) (kind num : Int) (s : List α × Bool) : List α × Bool :=
  if kind = 5 then cMany (typI ∘ f) (cOne (typI ∘ f) (cOne (typI ∘ f) s))
  else if kind = 7 then cMany (typI ∘ f) s
  else if kind = 4 ∨ kind = 6 ∨ kind = 42 ∨ kind = 45 then cOne (typI ∘ f) s
  else if kind = 15 then cMany (exprI ∘ f) (cOne (exprI ∘ f) (cOne (exprI ∘ f) s))
  else if kind = 16 ∨ kind = 23 then cMany (exprI ∘ f) (cOne (exprI ∘ f) s)
  else if kind = 17 ∨ kind = 22 ∨ kind = 24 ∨ kind = 33 ∨ kind = 34 then cOne (exprI ∘ f) (cOne (exprI ∘ f) s)
  else if kind = 14 ∨ kind = 18 ∨ kind = 21 ∨ kind = 25 ∨ kind = 31 ∨ kind = 35 ∨ kind = 39 then cOne (exprI ∘ f) s
  else if kind = 19 then cOne (justI 6 ∘ f) s
  else if kind = 20 then cOne (justI 41 ∘ f) (if num = 1 then cOne (typI ∘ f) (cMany (justI 42 ∘ f) s) else cMany (justI 42 ∘ f) s)
  else if kind = 32 then cMay (exprI ∘ f) (cOne (typI ∘ f) s)
  else if kind = 38 then cMay (exprI ∘ f) s
  else if kind = 44 then cOne (justI 41 ∘ f) (cOne (exprI ∘ f) (cOne (exprI ∘ f) s))
  else if kind = 37 ∨ kind = 43 then cOne (justI 41 ∘ f) (cOne (exprI ∘ f) s)
  else if kind = 36 then cMay (elseI ∘ f) (cOne (justI 41 ∘ f) (cOne (exprI ∘ f) s))
  else if kind = 40 then cMany (armI ∘ f) s
  else if kind = 46 then cMany (statI ∘ f) (cIter (justI 45 ∘ f) num.toNat s)
  else if kind = 41 then cMany (statI ∘ f) s
  else s
def fitS {α : Type} (s : List α × Bool) : Bool := !s.2 && s.1.length == 0
/-- the kids are so many and of such kinds as the kind wants -/
def kidsFitI {α : Type} (f : α → Int) (kind num : Int) (ks : List α) : Bool := fitS (kidsRun f kind num (ks, false))

def numFitsI (kind num : Int) (n : Nat) : Bool :=
  if kind = 7 then num == 0 || (num == 1 && decide (0 < n))
  else if kind = 12 ∨ kind = 20 then num == 0 || num == 1
  else if kind = 11 ∨ kind = 25 then decide (0 ≤ num)
  else if kind = 21 ∨ kind = 22 then levelI kind num != 0
  else if kind = 46 then decide (0 ≤ num) && decide (num ≤ n)
  else num == 0

/-- the node with that number -/
def ndN (l : List Nd) (i : Nat) : Nd := l.getD i nd0
def ndAt (l : List Nd) (i : Int) : Nd := l.getD i.toNat nd0
/-- its kind -/
def kdN (l : List Nd) (i : Nat) : Int := (ndN l i).kind

def wantedI (kind num : Int) (place : Nat) : Int :=
  if kind = 22 then (if place = 0 ∧ levelI kind num ≠ 3 then levelI kind num else levelI kind num + 1)
  else if kind = 21 then 6
  else if 23 ≤ kind ∧ kind ≤ 25 then (if place = 0 then 7 else 0)
  else if kind = 43 then (if place = 0 then 6 else 0)
  else 0
def levelsGo (l : List Nd) (n : Nd) : Nat → List Int → Bool
  | _, [] => true
  | p, k :: r => if levelI (ndAt l k).kind (ndAt l k).num < wantedI n.kind n.num p then false else levelsGo l n (p + 1) r
/-- does it begin with the sign that receives (f: fuel) -/
def beginsI (l : List Nd) : Nat → Int → Bool
  | 0, _ => false
  | f + 1, k => if 22 ≤ (ndAt l k).kind ∧ (ndAt l k).kind ≤ 25 then beginsI l f ((ndAt l k).kids.getD 0 0) else (ndAt l k).kind == 21 && (ndAt l k).num == 3
def levelsFitI (l : List Nd) (n : Nd) : Bool :=
  levelsGo l n 0 n.kids && (n.kind != 44 || !beginsI l (l.length + 1) (n.kids.getD 0 0))

/-- the kids, from the last on, are the nodes that the order wants -/
def orderGo (fs : List Nat) : Int → List Int → Bool
  | _, [] => true
  | next, k :: r => if k = next - 1 ∧ 0 ≤ k then orderGo fs (fs.getD k.toNat 0) r else false
def orderI (fs : List Nat) (i : Nat) (kids : List Int) : Bool := orderGo fs i kids.reverse

end Go.Proofs.YtjjbgbadkbomlaaDoor
