import Derived.WalkKit
namespace Go.Proofs.Ytjabdhmkibahlaa
set_option linter.unusedVariables false
set_option linter.unusedSimpArgs false

/-! ### agents, in plain words -/
structure Hd where
  chan : Int
  send : Bool
structure Ag where
  id : Int
  awake : Bool
  arms : List Hd
  held : List Int
structure Lk where
  waker : Int
  woken : Int
  chan : Int
/-- each above the one ahead of it, all above k -/
def risF : Int → List Int → Bool
  | _, [] => true
  | k, x :: r => decide (k < x) && risF x r
def risI (l : List Int) : Bool := risF 0 l
def armOk (held : List Int) (h : Hd) : Bool := h.chan == 0 || held.contains h.chan
def agOk (a : Ag) : Bool := !(a.awake && decide (0 < a.arms.length)) && risI a.held && a.arms.all (armOk a.held)
def agsF : Int → List Ag → Bool
  | _, [] => true
  | k, a :: r => decide (k < a.id) && agOk a && agsF a.id r
/-- P14.1 -/
def stOk (s : List Ag) : Bool := decide (s.length ≤ 4096) && agsF (-1) s
def chkI (s : List Ag) : Int := if stOk s then 0 else 140
theorem ris_above : ∀ (l : List Int) (k : Int), risF k l = true → ∀ x ∈ l, k < x
  | [], k, _, x, h => by cases h
  | v :: r, k, hr, x, h => by
    rw [risF, Bool.and_eq_true, decide_eq_true_eq] at hr
    rcases List.mem_cons.1 h with rfl | h
    · exact hr.1
    · exact Int.lt_trans hr.1 (ris_above r v hr.2 x h)
theorem ris_lt : ∀ (l : List Int) (k : Int), risF k l = true → l.Pairwise (· < ·)
  | [], k, _ => List.Pairwise.nil
  | v :: r, k, hr => by
    rw [risF, Bool.and_eq_true, decide_eq_true_eq] at hr
    exact List.pairwise_cons.2 ⟨ris_above r v hr.2, ris_lt r v hr.2⟩
theorem ris_le {l : List Int} {k : Int} (h : risF k l = true) : l.Pairwise (· ≤ ·) := (ris_lt l k h).imp (fun h => Int.le_of_lt h)
/-! ### how somebody stands at a channel -/
structure Stc where
  awake : Bool
  sends : Bool
  recvs : Bool
def st0 : Stc := ⟨false, false, false⟩
def Stc.wakes (h o : Stc) : Bool := h.awake && (o.sends || o.recvs) || h.sends && o.recvs || h.recvs && o.sends
/-- an arm more -/
def stAdd (s : Stc) (h : Hd) : Stc := ⟨false, s.sends || h.send, s.recvs || !h.send⟩
def waitF (c : Int) : Stc → List Hd → Stc
  | s, [] => s
  | s, h :: r => waitF c (if h.chan ≠ 0 ∧ h.chan = c then stAdd s h else s) r
def waitI (l : List Hd) (c : Int) : Stc := waitF c st0 l
theorem waitF_snoc (c : Int) : ∀ (l : List Hd) (s : Stc) (h : Hd), waitF c s (l ++ [h]) = if h.chan ≠ 0 ∧ h.chan = c then stAdd (waitF c s l) h else waitF c s l
  | [], s, h => rfl
  | x :: r, s, h => by rw [List.cons_append, waitF, waitF_snoc c r, waitF]
/-- the channels that they are on -/
def onI (l : List Hd) (c : Int) : Bool := l.any fun h => h.chan != 0 && h.chan == c
theorem onI_snoc (l : List Hd) (h : Hd) (c : Int) : onI (l ++ [h]) c = (onI l c || (h.chan != 0 && h.chan == c)) := by simp [onI]
def standI (a : Ag) (c : Int) : Stc := if a.awake then ⟨a.held.contains c, false, false⟩ else waitI a.arms c
end Go.Proofs.Ytjabdhmkibahlaa
