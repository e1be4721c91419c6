import Derived.Test.YtllgaholkminnaaDoorCKTab
import Derived.Test.YtllgaholkminnaaDoorCKMem
import Derived.Test.YtllgaholkminnaaDoorCKSame
namespace Go.Proofs.YtllgaholkminnaaDoor
open Go.RowKit
set_option linter.unusedVariables false
set_option linter.unusedSimpArgs false

def nmT : ByteArray := ⟨#[84]⟩
def nmU : ByteArray := ⟨#[85]⟩
def nmV : ByteArray := ⟨#[86]⟩
def exL (a : ByteArray) : List Nd := [⟨3, 9, [], a, 0⟩, ⟨6, 0, [0], ⟨#[]⟩, 0⟩, ⟨45, 0, [1], nmT, 0⟩, ⟨3, 0, [], nmU, 0⟩, ⟨6, 0, [3], ⟨#[]⟩, 0⟩, ⟨6, 0, [4], ⟨#[]⟩, 0⟩, ⟨45, 0, [5], nmU, 0⟩, ⟨46, 0, [2, 6], ⟨#[]⟩, 2⟩]
def ndC (kd ps : Int) (v : Value) (nm : ByteArray) (num : Int) : List Value := [.int .i64 kd, .int .i64 ps, v, .string nm, .int .i64 num]
def kv (b n : Nat) : Value := .slice (some ⟨b, 0, none⟩) n n
def nilS : Value := .slice none 0 0
def exC (s : Nat) (a : ByteArray) : Array Value := (ndC 3 9 nilS a 0 ++ ndC 6 0 (kv s 1) ⟨#[]⟩ 0 ++ ndC 45 0 (kv (s + 1) 1) nmT 0 ++ ndC 3 0 nilS nmU 0 ++ ndC 6 0 (kv (s + 2) 1) ⟨#[]⟩ 0 ++ ndC 6 0 (kv (s + 3) 1) ⟨#[]⟩ 0 ++ ndC 45 0 (kv (s + 4) 1) nmU 0 ++ ndC 46 0 (kv (s + 5) 2) ⟨#[]⟩ 2).toArray
structure ExAt (W : World) (s : Nat) (a : ByteArray) : Prop where
  b0 : W.heap[s]? = some (.cells #[.int .i64 0] 3 (0, 0))
  b1 : W.heap[s + 1]? = some (.cells #[.int .i64 1] 3 (0, 0))
  b2 : W.heap[s + 2]? = some (.cells #[.int .i64 3] 3 (0, 0))
  b3 : W.heap[s + 3]? = some (.cells #[.int .i64 4] 3 (0, 0))
  b4 : W.heap[s + 4]? = some (.cells #[.int .i64 5] 3 (0, 0))
  b5 : W.heap[s + 5]? = some (.cells #[.int .i64 2, .int .i64 6] 3 (0, 0))
  b6 : W.heap[s + 6]? = some (.cells (exC s a) 37 (0, 0))
theorem ExAt.lt {W : World} {s : Nat} {a : ByteArray} (h : ExAt W s a) : s + 6 < W.heap.size := (Array.getElem?_eq_some_iff.1 h.b6).1
theorem ExAt.below {W W' : World} {s B : Nat} {a : ByteArray} (h : ExAt W s a) (hb : Below B W W') (hB : s + 7 ≤ B) : ExAt W' s a :=
  ⟨by rw [hb.block _ (by omega)]; exact h.b0, by rw [hb.block _ (by omega)]; exact h.b1, by rw [hb.block _ (by omega)]; exact h.b2, by rw [hb.block _ (by omega)]; exact h.b3, by rw [hb.block _ (by omega)]; exact h.b4, by rw [hb.block _ (by omega)]; exact h.b5, by rw [hb.block _ (by omega)]; exact h.b6⟩
theorem ExAt.turn {W : World} {s : Nat} {a : ByteArray} (h : ExAt W s a) (b : ByteArray) : ExAt (W.setCell ⟨s + 6, 3, none⟩ (.string b)) s b := by
  have ho := Only.set (s + 6) W 3 (.string b)
  refine ⟨by rw [ho.block _ (by omega)]; exact h.b0, by rw [ho.block _ (by omega)]; exact h.b1, by rw [ho.block _ (by omega)]; exact h.b2, by rw [ho.block _ (by omega)]; exact h.b3, by rw [ho.block _ (by omega)]; exact h.b4, by rw [ho.block _ (by omega)]; exact h.b5, ?_⟩
  rw [heap_setCell_same W (s + 6) 3 _ _ _ h.b6]
  rfl
theorem ints1 {W : World} {s B : Nat} {x : Int} (h : W.heap[s]? = some (.cells #[.int .i64 x] 3 (0, 0))) (hB : s < B) : IntsV W B (kv s 1) [x] := by
  refine ⟨_, _, rfl, by simp, by simp [maxLen], fun _ => ⟨s, 0, rfl, hB, fun i hi => ?_⟩⟩
  rw [cell_of_row W s _ _ _ (0, 0) h]
  match i, hi with
  | 0, _ => rfl
theorem ints2 {W : World} {s B : Nat} {x y : Int} (h : W.heap[s]? = some (.cells #[.int .i64 x, .int .i64 y] 3 (0, 0))) (hB : s < B) : IntsV W B (kv s 2) [x, y] := by
  refine ⟨_, _, rfl, by simp, by simp [maxLen], fun _ => ⟨s, 0, rfl, hB, fun i hi => ?_⟩⟩
  rw [cell_of_row W s _ _ _ (0, 0) h]
  match i, hi with
  | 0, _ => rfl
  | 1, _ => rfl
theorem ints0 (W : World) (B : Nat) : IntsV W B nilS [] := ⟨_, _, rfl, by simp, by simp [maxLen], fun h => by simp at h⟩
theorem ExAt.cell {W : World} {s : Nat} {a : ByteArray} (h : ExAt W s a) (i : Nat) : W.cell? ⟨s + 6, i, none⟩ = (exC s a)[i]? := cell_of_row W (s + 6) i _ _ (0, 0) h.b6
theorem ExAt.nd {W : World} {s : Nat} {a : ByteArray} (h : ExAt W s a) (j : Nat) (hj : j < 8) : ∃ ka kc, NdAt W (s + 7) (s + 6) (0 + j * 5) (ndN (exL a) j) ka kc := by
  match j, hj with
  | 0, _ => exact ⟨none, 0, by rw [h.cell]; rfl, by rw [h.cell]; rfl, by rw [h.cell]; rfl, by rw [h.cell]; rfl, by rw [h.cell]; rfl, ints0 _ _⟩
  | 1, _ => exact ⟨some ⟨s, 0, none⟩, 1, by rw [h.cell]; rfl, by rw [h.cell]; rfl, by rw [h.cell]; rfl, by rw [h.cell]; rfl, by rw [h.cell]; rfl, ints1 h.b0 (by omega)⟩
  | 2, _ => exact ⟨some ⟨s + 1, 0, none⟩, 1, by rw [h.cell]; rfl, by rw [h.cell]; rfl, by rw [h.cell]; rfl, by rw [h.cell]; rfl, by rw [h.cell]; rfl, ints1 h.b1 (by omega)⟩
  | 3, _ => exact ⟨none, 0, by rw [h.cell]; rfl, by rw [h.cell]; rfl, by rw [h.cell]; rfl, by rw [h.cell]; rfl, by rw [h.cell]; rfl, ints0 _ _⟩
  | 4, _ => exact ⟨some ⟨s + 2, 0, none⟩, 1, by rw [h.cell]; rfl, by rw [h.cell]; rfl, by rw [h.cell]; rfl, by rw [h.cell]; rfl, by rw [h.cell]; rfl, ints1 h.b2 (by omega)⟩
  | 5, _ => exact ⟨some ⟨s + 3, 0, none⟩, 1, by rw [h.cell]; rfl, by rw [h.cell]; rfl, by rw [h.cell]; rfl, by rw [h.cell]; rfl, by rw [h.cell]; rfl, ints1 h.b3 (by omega)⟩
  | 6, _ => exact ⟨some ⟨s + 4, 0, none⟩, 1, by rw [h.cell]; rfl, by rw [h.cell]; rfl, by rw [h.cell]; rfl, by rw [h.cell]; rfl, by rw [h.cell]; rfl, ints1 h.b4 (by omega)⟩
  | 7, _ => exact ⟨some ⟨s + 5, 0, none⟩, 2, by rw [h.cell]; rfl, by rw [h.cell]; rfl, by rw [h.cell]; rfl, by rw [h.cell]; rfl, by rw [h.cell]; rfl, ints2 h.b5 (by omega)⟩
theorem exwf {kd ps num : Int} {kids : List Int} {nm : ByteArray} (h1 : I64 kd) (h0 : I64 ps) (h2 : I64 num) (h4 : nm.size ≤ maxLen) (h3 : ∀ k ∈ kids, I64 k) : NdWf ⟨kd, ps, kids, nm, num⟩ := ⟨h1, h0, h2, h4, h3⟩
theorem ex_wf (a : ByteArray) (ha : a.size ≤ maxLen) (j : Nat) (hj : j < 8) : NdWf (ndN (exL a) j) := by
  match j, hj with
  | 0, _ => exact exwf (by unfold I64; omega) (by unfold I64; omega) (by unfold I64; omega) ha (by intro k hk; simp at hk)
  | 1, _ => exact exwf (by unfold I64; omega) (by unfold I64; omega) (by unfold I64; omega) (by decide) (by intro k hk; simp at hk; subst hk; unfold I64; omega)
  | 2, _ => exact exwf (by unfold I64; omega) (by unfold I64; omega) (by unfold I64; omega) (by decide) (by intro k hk; simp at hk; subst hk; unfold I64; omega)
  | 3, _ => exact exwf (by unfold I64; omega) (by unfold I64; omega) (by unfold I64; omega) (by decide) (by intro k hk; simp at hk)
  | 4, _ => exact exwf (by unfold I64; omega) (by unfold I64; omega) (by unfold I64; omega) (by decide) (by intro k hk; simp at hk; subst hk; unfold I64; omega)
  | 5, _ => exact exwf (by unfold I64; omega) (by unfold I64; omega) (by unfold I64; omega) (by decide) (by intro k hk; simp at hk; subst hk; unfold I64; omega)
  | 6, _ => exact exwf (by unfold I64; omega) (by unfold I64; omega) (by unfold I64; omega) (by decide) (by intro k hk; simp at hk; subst hk; unfold I64; omega)
  | 7, _ => exact exwf (by unfold I64; omega) (by unfold I64; omega) (by unfold I64; omega) (by decide) (by intro k hk; simp at hk; rcases hk with rfl | rfl <;> (unfold I64; omega))
theorem ExAt.nodes {W : World} {s : Nat} {a : ByteArray} (h : ExAt W s a) (ha : a.size ≤ maxLen) : Nodes W (s + 7) (s + 6) 0 8 (exL a) :=
  ⟨h.nd, ex_wf a ha, by omega, h.lt, by simp [exL, maxLen], by simp [exL]⟩

/-! ### what is told of it -/
def emptyJ (s : ByteArray) : Bool := s.data.toList.isEmpty
theorem emptyB_eq (s : ByteArray) : emptyB s = emptyJ s := by unfold emptyB emptyJ; rw [ByteArray.toList_eq]
def nameFitsJ (kind : Int) (nm : ByteArray) : Bool :=
  if kind = 20 ∨ kind = 43 then emptyJ nm || nameOk nm.data.toList
  else if kind = 3 ∨ kind = 13 ∨ kind = 31 ∨ kind = 32 ∨ kind = 42 ∨ kind = 45 then nameOk nm.data.toList
  else emptyJ nm
theorem nameFitsJ_eq (k : Int) (nm : ByteArray) : nameFitsI k nm = nameFitsJ k nm := by unfold nameFitsI nameFitsJ; rw [emptyB_eq]
def checkNodeJ (l : List Nd) (fs : List Nat) (i : Nat) : Nat :=
  if kindI (ndN l i).kind = false ∨ (ndN l i).pos < 0 then 20
  else if numFitsI (ndN l i).kind (ndN l i).num (ndN l i).kids.length = false then 23
  else if nameFitsJ (ndN l i).kind (ndN l i).name = false then 22
  else if orderI fs i (ndN l i).kids = false ∨ kidsFitI (kdN l) (ndN l i).kind (ndN l i).num ((ndN l i).kids.map Int.toNat) = false then 21
  else if levelsFitI l (ndN l i) = false then 24
  else 0
theorem checkNodeJ_eq (l : List Nd) (fs : List Nat) (i : Nat) : checkNodeI l fs i = checkNodeJ l fs i := by unfold checkNodeI checkNodeJ; rw [nameFitsJ_eq]
def checkGoJ (l : List Nd) : Nat → List Nat → Nat × Nat
  | 0, fs => rootI l fs
  | m + 1, fs => if checkNodeJ l fs fs.length = 0 then checkGoJ l m (fs ++ [firstOf fs (ndN l fs.length) fs.length]) else (fs.length, checkNodeJ l fs fs.length)
theorem checkGoJ_eq (l : List Nd) : ∀ (m : Nat) (fs : List Nat), checkGo l m fs = checkGoJ l m fs
  | 0, fs => rfl
  | m + 1, fs => by rw [checkGo, checkGoJ, checkNodeJ_eq, checkGoJ_eq l m]
theorem check_exT : checkAll (exL nmT) = (0, 0) := by
  unfold checkAll
  rw [checkGoJ_eq]
  kernel_rfl
theorem check_exV : checkAll (exL nmV) = (0, 0) := by
  unfold checkAll
  rw [checkGoJ_eq]
  kernel_rfl
theorem all8 {p : Nat → Prop} (h : p 0 ∧ p 1 ∧ p 2 ∧ p 3 ∧ p 4 ∧ p 5 ∧ p 6 ∧ p 7) : ∀ j, j < 8 → p j
  | 0, _ => h.1
  | 1, _ => h.2.1
  | 2, _ => h.2.2.1
  | 3, _ => h.2.2.2.1
  | 4, _ => h.2.2.2.2.1
  | 5, _ => h.2.2.2.2.2.1
  | 6, _ => h.2.2.2.2.2.2.1
  | 7, _ => h.2.2.2.2.2.2.2
theorem ex_twice (a : ByteArray) : ∀ j, j < 8 → twiceAt (exL a) j = false := all8 ⟨rfl, rfl, rfl, rfl, rfl, rfl, rfl, rfl⟩
theorem ex_known : ∀ j, j < 8 → unknownAt (exL nmT) j = false := all8 ⟨rfl, rfl, rfl, rfl, rfl, rfl, rfl, rfl⟩
theorem ex_unknown : unknownAt (exL nmV) 0 = true := rfl
theorem ex_decl (a : ByteArray) : DeclK (exL a) := by
  show ∀ i, i < 8 → _
  exact all8 ⟨fun h => absurd h (by simp [kdN, ndN, exL]), fun h => absurd h (by simp [kdN, ndN, exL]), fun _ => ⟨1, [], rfl, by simp [kdN, ndN, exL]⟩, fun h => absurd h (by simp [kdN, ndN, exL]), fun h => absurd h (by simp [kdN, ndN, exL]), fun h => absurd h (by simp [kdN, ndN, exL]), fun _ => ⟨5, [], rfl, by simp [kdN, ndN, exL]⟩, fun h => absurd h (by simp [kdN, ndN, exL])⟩
theorem ex_leaf (a : ByteArray) : LeafD (exL a) := by
  show ∀ i, i < 8 → _
  exact all8 ⟨fun h => absurd h (by simp [kdN, ndN, exL]), fun h => absurd h (by simp [kdN, ndN, exL]), fun _ => ⟨1, [], rfl, by simp [kdN, ndN, exL], by simp [kdN, ndN, exL], by simp [kdN, ndN, exL]⟩, fun h => absurd h (by simp [kdN, ndN, exL]), fun h => absurd h (by simp [kdN, ndN, exL]), fun h => absurd h (by simp [kdN, ndN, exL]), fun _ => ⟨5, [], rfl, by simp [kdN, ndN, exL], by simp [kdN, ndN, exL], by simp [kdN, ndN, exL]⟩, fun h => absurd h (by simp [kdN, ndN, exL])⟩
theorem ex_kidsin (a : ByteArray) : KidsIn (exL a) := by
  show ∀ i, i < 8 → _ → ∀ k ∈ _, 0 ≤ k ∧ k < (8 : Int)
  refine all8 ⟨?_, ?_, ?_, ?_, ?_, ?_, ?_, ?_⟩ <;> intro _ k hk <;> simp [ndN, exL] at hk <;> omega
theorem ex_kidlen (a : ByteArray) : ∀ i, i < 8 → (ndN (exL a) i).kids.length ≤ 2147483647 := all8 ⟨by simp [kdN, ndN, exL], by simp [kdN, ndN, exL], by simp [kdN, ndN, exL], by simp [kdN, ndN, exL], by simp [kdN, ndN, exL], by simp [kdN, ndN, exL], by simp [kdN, ndN, exL], by simp [kdN, ndN, exL]⟩
def exR (i : Nat) : Nat := [1, 1, 2, 5, 4, 5, 6, 7].getD i 0
def exD (i : Nat) : Nat := if i = 0 ∨ i = 3 then 1 else 0
theorem ex_meant : (List.range 8).map (meantAt (exL nmT)) = [1, 1, 2, 5, 4, 5, 6, 7] := by rfl
theorem ex_uf : UF ((List.range (exL nmT).length).map (meantAt (exL nmT))) exR exD := by
  show UF ((List.range 8).map (meantAt (exL nmT))) exR exD
  rw [ex_meant]
  refine ⟨?_, ?_, ?_, ?_, ?_⟩
  · exact all8 ⟨by decide, by decide, by decide, by decide, by decide, by decide, by decide, by decide⟩
  · exact all8 ⟨by decide, by decide, by decide, by decide, by decide, by decide, by decide, by decide⟩
  · exact all8 ⟨by decide, by decide, by decide, by decide, by decide, by decide, by decide, by decide⟩
  · exact all8 ⟨by decide, by decide, by decide, by decide, by decide, by decide, by decide, by decide⟩
  · exact all8 ⟨by decide, by decide, by decide, by decide, by decide, by decide, by decide, by decide⟩
def exT : List Ty := [⟨5, [0], false⟩, ⟨5, [2], false⟩, ⟨5, [1], false⟩]
theorem ex_rows : rowsGo (exL nmT) (fun i => ownOf (exL nmT) (exR i)) (exL nmT).length = exT := by rfl
theorem ex_of : tabL (exL nmT).length (fun i => ownOf (exL nmT) (exR i)) = [0, 0, -1, 2, 1, 2, -1, -1] := by rfl
theorem ex_valid : validI exT = true := by rfl
theorem ex_load : load exT id = 6 := by rfl
theorem ex_bis {a b : Nat} (ha : a < 3) (hb : b < 3) : Bis exT a b := by
  have al : ∀ x, x < 3 → Alike (tyN exT x) ⟨5, [0], false⟩ ∧ kidN exT x 0 < 3 := fun x hx => match x, hx with
    | 0, _ => ⟨⟨rfl, rfl, rfl⟩, by decide⟩
    | 1, _ => ⟨⟨rfl, rfl, rfl⟩, by decide⟩
    | 2, _ => ⟨⟨rfl, rfl, rfl⟩, by decide⟩
  refine ⟨fun x y => x < 3 ∧ y < 3, fun x y h => ?_, ha, hb⟩
  obtain ⟨x1, x2⟩ := al x h.1
  obtain ⟨y1, y2⟩ := al y h.2
  refine ⟨x1.trans y1.symm, fun k hk => ?_⟩
  have : k = 0 := by have := x1.len; simp at this; omega
  subst this
  exact ⟨x2, y2⟩
theorem ex_tywf : ∀ j, j < exT.length → TyWf (tyN exT j) := fun j hj => match j, hj with
  | 0, _ => ⟨by unfold I64; decide, by intro k hk; simp [exT, tyN] at hk; subst hk; unfold I64; omega⟩
  | 1, _ => ⟨by unfold I64; decide, by intro k hk; simp [exT, tyN] at hk; subst hk; unfold I64; omega⟩
  | 2, _ => ⟨by unfold I64; decide, by intro k hk; simp [exT, tyN] at hk; subst hk; unfold I64; omega⟩
theorem ex_tylen : ∀ j, j < exT.length → (tyN exT j).kids.length ≤ maxLen := fun j hj => match j, hj with
  | 0, _ => by decide
  | 1, _ => by decide
  | 2, _ => by decide
end Go.Proofs.YtllgaholkminnaaDoor
