import Derived.Test.YtllgaholkminnaaDoorCKTab
import Derived.Test.YtllgaholkminnaaDoorCKLeaf
import Derived.Test.YtllgaholkminnaaDoorCKSame
namespace Go.Proofs.YtllgaholkminnaaDoor
open Go.RowKit
set_option linter.unusedVariables false
set_option linter.unusedSimpArgs false

def nmT : ByteArray := ⟨#[84]⟩
def nmU : ByteArray := ⟨#[85]⟩
def nmV : ByteArray := ⟨#[86]⟩
def exL (a : ByteArray) : List Nd := [⟨3, 9, [], a, 0⟩, ⟨6, 0, [0], ⟨#[]⟩, 0⟩, ⟨45, 0, [1], nmT, 0⟩, ⟨3, 0, [], nmU, 0⟩, ⟨6, 0, [3], ⟨#[]⟩, 0⟩, ⟨6, 0, [4], ⟨#[]⟩, 0⟩, ⟨45, 0, [5], nmU, 0⟩, ⟨46, 0, [2, 6], ⟨#[]⟩, 2⟩]
def ndC (kd ps : Int) (v : Value) (nm : ByteArray) (num : Int) : List Value := [.int .i64 kd, .int .i64 ps, v, .string nm, .int .i64 num]
def kv (b n : Nat) : Value := .slice (some ⟨b, 0, none⟩) n n
def nilS : Value := .slice none 0 0
def exC (s : Nat) (a : ByteArray) : Array Value := (ndC 3 9 nilS a 0 ++ ndC 6 0 (kv s 1) ⟨#[]⟩ 0 ++ ndC 45 0 (kv (s + 1) 1) nmT 0 ++ ndC 3 0 nilS nmU 0 ++ ndC 6 0 (kv (s + 2) 1) ⟨#[]⟩ 0 ++ ndC 6 0 (kv (s + 3) 1) ⟨#[]⟩ 0 ++ ndC 45 0 (kv (s + 4) 1) nmU 0 ++ ndC 46 0 (kv (s + 5) 2) ⟨#[]⟩ 2).toArray
structure ExAt (W : World) (s : Nat) (a : ByteArray) : Prop where
  b0 : W.heap[s]? = some (.cells #[.int .i64 0] 3 (0, 0))
  b1 : W.heap[s + 1]? = some (.cells #[.int .i64 1] 3 (0, 0))
  b2 : W.heap[s + 2]? = some (.cells #[.int .i64 3] 3 (0, 0))
  b3 : W.heap[s + 3]? = some (.cells #[.int .i64 4] 3 (0, 0))
  b4 : W.heap[s + 4]? = some (.cells #[.int .i64 5] 3 (0, 0))
  b5 : W.heap[s + 5]? = some (.cells #[.int .i64 2, .int .i64 6] 3 (0, 0))
  b6 : W.heap[s + 6]? = some (.cells (exC s a) 37 (0, 0))
theorem ExAt.lt {W : World} {s : Nat} {a : ByteArray} (h : ExAt W s a) : s + 6 < W.heap.size := (Array.getElem?_eq_some_iff.1 h.b6).1
theorem ExAt.below {W W' : World} {s B : Nat} {a : ByteArray} (h : ExAt W s a) (hb : Below B W W') (hB : s + 7 ≤ B) : ExAt W' s a :=
  ⟨by rw [hb.block _ (by omega)]; exact h.b0, by rw [hb.block _ (by omega)]; exact h.b1, by rw [hb.block _ (by omega)]; exact h.b2, by rw [hb.block _ (by omega)]; exact h.b3, by rw [hb.block _ (by omega)]; exact h.b4, by rw [hb.block _ (by omega)]; exact h.b5, by rw [hb.block _ (by omega)]; exact h.b6⟩
theorem ExAt.turn {W : World} {s : Nat} {a : ByteArray} (h : ExAt W s a) (b : ByteArray) : ExAt (W.setCell ⟨s + 6, 3, none⟩ (.string b)) s b := by
  have ho := Only.set (s + 6) W 3 (.string b)
  refine ⟨by rw [ho.block _ (by omega)]; exact h.b0, by rw [ho.block _ (by omega)]; exact h.b1, by rw [ho.block _ (by omega)]; exact h.b2, by rw [ho.block _ (by omega)]; exact h.b3, by rw [ho.block _ (by omega)]; exact h.b4, by rw [ho.block _ (by omega)]; exact h.b5, ?_⟩
  rw [heap_setCell_same W (s + 6) 3 _ _ _ h.b6]
  rfl
theorem ints1 {W : World} {s B : Nat} {x : Int} (h : W.heap[s]? = some (.cells #[.int .i64 x] 3 (0, 0))) (hB : s < B) : IntsV W B (kv s 1) [x] := by
  refine ⟨_, _, rfl, by simp, by simp [maxLen], fun _ => ⟨s, 0, rfl, hB, fun i hi => ?_⟩⟩
  rw [cell_of_row W s _ _ _ (0, 0) h]
  match i, hi with
  | 0, _ => rfl
theorem ints2 {W : World} {s B : Nat} {x y : Int} (h : W.heap[s]? = some (.cells #[.int .i64 x, .int .i64 y] 3 (0, 0))) (hB : s < B) : IntsV W B (kv s 2) [x, y] := by
  refine ⟨_, _, rfl, by simp, by simp [maxLen], fun _ => ⟨s, 0, rfl, hB, fun i hi => ?_⟩⟩
  rw [cell_of_row W s _ _ _ (0, 0) h]
  match i, hi with
  | 0, _ => rfl
  | 1, _ => rfl
theorem ints0 (W : World) (B : Nat) : IntsV W B nilS [] := ⟨_, _, rfl, by simp, by simp [maxLen], fun h => by simp at h⟩
theorem ExAt.cell {W : World} {s : Nat} {a : ByteArray} (h : ExAt W s a) (i : Nat) : W.cell? ⟨s + 6, i, none⟩ = (exC s a)[i]? := cell_of_row W (s + 6) i _ _ (0, 0) h.b6
theorem ExAt.nd {W : World} {s : Nat} {a : ByteArray} (h : ExAt W s a) (j : Nat) (hj : j < 8) : ∃ ka kc, NdAt W (s + 7) (s + 6) (0 + j * 5) (ndN (exL a) j) ka kc := by
  match j, hj with
  | 0, _ => exact ⟨none, 0, by rw [h.cell]; rfl, by rw [h.cell]; rfl, by rw [h.cell]; rfl, by rw [h.cell]; rfl, by rw [h.cell]; rfl, ints0 _ _⟩
  | 1, _ => exact ⟨some ⟨s, 0, none⟩, 1, by rw [h.cell]; rfl, by rw [h.cell]; rfl, by rw [h.cell]; rfl, by rw [h.cell]; rfl, by rw [h.cell]; rfl, ints1 h.b0 (by omega)⟩
  | 2, _ => exact ⟨some ⟨s + 1, 0, none⟩, 1, by rw [h.cell]; rfl, by rw [h.cell]; rfl, by rw [h.cell]; rfl, by rw [h.cell]; rfl, by rw [h.cell]; rfl, ints1 h.b1 (by omega)⟩
  | 3, _ => exact ⟨none, 0, by rw [h.cell]; rfl, by rw [h.cell]; rfl, by rw [h.cell]; rfl, by rw [h.cell]; rfl, by rw [h.cell]; rfl, ints0 _ _⟩
  | 4, _ => exact ⟨some ⟨s + 2, 0, none⟩, 1, by rw [h.cell]; rfl, by rw [h.cell]; rfl, by rw [h.cell]; rfl, by rw [h.cell]; rfl, by rw [h.cell]; rfl, ints1 h.b2 (by omega)⟩
  | 5, _ => exact ⟨some ⟨s + 3, 0, none⟩, 1, by rw [h.cell]; rfl, by rw [h.cell]; rfl, by rw [h.cell]; rfl, by rw [h.cell]; rfl, by rw [h.cell]; rfl, ints1 h.b3 (by omega)⟩
  | 6, _ => exact ⟨some ⟨s + 4, 0, none⟩, 1, by rw [h.cell]; rfl, by rw [h.cell]; rfl, by rw [h.cell]; rfl, by rw [h.cell]; rfl, by rw [h.cell]; rfl, ints1 h.b4 (by omega)⟩
  | 7, _ => exact ⟨some ⟨s + 5, 0, none⟩, 2, by rw [h.cell]; rfl, by rw [h.cell]; rfl, by rw [h.cell]; rfl, by rw [h.cell]; rfl, by rw [h.cell]; rfl, ints2 h.b5 (by omega)⟩
theorem exwf {kd ps num : Int} {kids : List Int} {nm : ByteArray} (h1 : I64 kd) (h0 : I64 ps) (h2 : I64 num) (h4 : nm.size ≤ maxLen) (h3 : ∀ k ∈ kids, I64 k) : NdWf ⟨kd, ps, kids, nm, num⟩ := ⟨h1, h0, h2, h4, h3⟩
theorem ex_wf (a : ByteArray) (ha : a.size ≤ maxLen) (j : Nat) (hj : j < 8) : NdWf (ndN (exL a) j) := by
  match j, hj with
  | 0, _ => exact exwf (by unfold I64; omega) (by unfold I64; omega) (by unfold I64; omega) ha (by intro k hk; simp at hk)
  | 1, _ => exact exwf (by unfold I64; omega) (by unfold I64; omega) (by unfold I64; omega) (by decide) (by intro k hk; simp at hk; subst hk; unfold I64; omega)
  | 2, _ => exact exwf (by unfold I64; omega) (by unfold I64; omega) (by unfold I64; omega) (by decide) (by intro k hk; simp at hk; subst hk; unfold I64; omega)
  | 3, _ => exact exwf (by unfold I64; omega) (by unfold I64; omega) (by unfold I64; omega) (by decide) (by intro k hk; simp at hk)
  | 4, _ => exact exwf (by unfold I64; omega) (by unfold I64; omega) (by unfold I64; omega) (by decide) (by intro k hk; simp at hk; subst hk; unfold I64; omega)
  | 5, _ => exact exwf (by unfold I64; omega) (by unfold I64; omega) (by unfold I64; omega) (by decide) (by intro k hk; simp at hk; subst hk; unfold I64; omega)
  | 6, _ => exact exwf (by unfold I64; omega) (by unfold I64; omega) (by unfold I64; omega) (by decide) (by intro k hk; simp at hk; subst hk; unfold I64; omega)
  | 7, _ => exact exwf (by unfold I64; omega) (by unfold I64; omega) (by unfold I64; omega) (by decide) (by intro k hk; simp at hk; rcases hk with rfl | rfl <;> (unfold I64; omega))
theorem ExAt.nodes {W : World} {s : Nat} {a : ByteArray} (h : ExAt W s a) (ha : a.size ≤ maxLen) : Nodes W (s + 7) (s + 6) 0 8 (exL a) :=
  ⟨h.nd, ex_wf a ha, by omega, h.lt, by simp [exL, maxLen], by simp [exL]⟩

/-! ### what is told of it -/
def emptyJ (s : ByteArray) : Bool := s.data.toList.isEmpty
theorem emptyB_eq (s : ByteArray) : emptyB s = emptyJ s := by unfold emptyB emptyJ; rw [ByteArray.toList_eq]
def nameFitsJ (kind : Int) (nm : ByteArray) : Bool :=
  if kind = 20 ∨ kind = 43 then emptyJ nm || nameOk nm.data.toList
  else if kind = 3 ∨ kind = 13 ∨ kind = 31 ∨ kind = 32 ∨ kind = 42 ∨ kind = 45 then nameOk nm.data.toList
  else emptyJ nm
theorem nameFitsJ_eq (k : Int) (nm : ByteArray) : nameFitsI k nm = nameFitsJ k nm := by unfold nameFitsI nameFitsJ; rw [emptyB_eq]
def checkNodeJ (l : List Nd) (fs : List Nat) (i : Nat) : Nat :=
  if kindI (ndN l i).kind = false ∨ (ndN l i).pos < 0 then 20
  else if numFitsI (ndN l i).kind (ndN l i).num (ndN l i).kids.length = false then 23
  else if nameFitsJ (ndN l i).kind (ndN l i).name = false then 22
  else if orderI fs i (ndN l i).kids = false ∨ kidsFitI (kdN l) (ndN l i).kind (ndN l i).num ((ndN l i).kids.map Int.toNat) = false then 21
  else if levelsFitI l (ndN l i) = false then 24
  else 0
theorem checkNodeJ_eq (l : List Nd) (fs : List Nat) (i : Nat) : checkNodeI l fs i = checkNodeJ l fs i := by unfold checkNodeI checkNodeJ; rw [nameFitsJ_eq]
def checkGoJ (l : List Nd) : Nat → List Nat → Nat × Nat
  | 0, fs => rootI l fs
  | m + 1, fs => if checkNodeJ l fs fs.length = 0 then checkGoJ l m (fs ++ [firstOf fs (ndN l fs.length) fs.length]) else (fs.length, checkNodeJ l fs fs.length)
theorem checkGoJ_eq (l : List Nd) : ∀ (m : Nat) (fs : List Nat), checkGo l m fs = checkGoJ l m fs
  | 0, fs => rfl
  | m + 1, fs => by rw [checkGo, checkGoJ, checkNodeJ_eq, checkGoJ_eq l m]
theorem check_exT : checkAll (exL nmT) = (0, 0) := by
  unfold checkAll
  rw [checkGoJ_eq]
  kernel_rfl
theorem check_exV : checkAll (exL nmV) = (0, 0) := by
  unfold checkAll
  rw [checkGoJ_eq]
  kernel_rfl
theorem all8 {p : Nat → Prop} (h : p 0 ∧ p 1 ∧ p 2 ∧ p 3 ∧ p 4 ∧ p 5 ∧ p 6 ∧ p 7) : ∀ j, j < 8 → p j
  | 0, _ => h.1
  | 1, _ => h.2.1
  | 2, _ => h.2.2.1
  | 3, _ => h.2.2.2.1
  | 4, _ => h.2.2.2.2.1
  | 5, _ => h.2.2.2.2.2.1
  | 6, _ => h.2.2.2.2.2.2.1
  | 7, _ => h.2.2.2.2.2.2.2
theorem ex_twice (a : ByteArray) : ∀ j, j < 8 → twiceAt (exL a) j = false := all8 ⟨rfl, rfl, rfl, rfl, rfl, rfl, rfl, rfl⟩
theorem ex_known : ∀ j, j < 8 → unknownAt (exL nmT) j = false := all8 ⟨rfl, rfl, rfl, rfl, rfl, rfl, rfl, rfl⟩
theorem ex_unknown : unknownAt (exL nmV) 0 = true := rfl
theorem ex_decl (a : ByteArray) : DeclK (exL a) := by
  show ∀ i, i < 8 → _
  exact all8 ⟨fun h => absurd h (by simp [kdN, ndN, exL]), fun h => absurd h (by simp [kdN, ndN, exL]), fun _ => ⟨1, [], rfl, by simp [kdN, ndN, exL]⟩, fun h => absurd h (by simp [kdN, ndN, exL]), fun h => absurd h (by simp [kdN, ndN, exL]), fun h => absurd h (by simp [kdN, ndN, exL]), fun _ => ⟨5, [], rfl, by simp [kdN, ndN, exL]⟩, fun h => absurd h (by simp [kdN, ndN, exL])⟩
theorem ex_leaf (a : ByteArray) : LeafD (exL a) := by
  show ∀ i, i < 8 → _
  exact all8 ⟨fun h => absurd h (by simp [kdN, ndN, exL]), fun h => absurd h (by simp [kdN, ndN, exL]), fun _ => ⟨1, [], rfl, by simp [kdN, ndN, exL], by simp [kdN, ndN, exL], by simp [kdN, ndN, exL]⟩, fun h => absurd h (by simp [kdN, ndN, exL]), fun h => absurd h (by simp [kdN, ndN, exL]), fun h => absurd h (by simp [kdN, ndN, exL]), fun _ => ⟨5, [], rfl, by simp [kdN, ndN, exL], by simp [kdN, ndN, exL], by simp [kdN, ndN, exL]⟩, fun h => absurd h (by simp [kdN, ndN, exL])⟩
theorem ex_kidsin (a : ByteArray) : KidsIn (exL a) := by
  show ∀ i, i < 8 → _ → ∀ k ∈ _, 0 ≤ k ∧ k < (8 : Int)
  refine all8 ⟨?_, ?_, ?_, ?_, ?_, ?_, ?_, ?_⟩ <;> intro _ k hk <;> simp [ndN, exL] at hk <;> omega
theorem ex_kidlen (a : ByteArray) : ∀ i, i < 8 → (ndN (exL a) i).kids.length ≤ 2147483647 := all8 ⟨by simp [kdN, ndN, exL], by simp [kdN, ndN, exL], by simp [kdN, ndN, exL], by simp [kdN, ndN, exL], by simp [kdN, ndN, exL], by simp [kdN, ndN, exL], by simp [kdN, ndN, exL], by simp [kdN, ndN, exL]⟩
def exR (i : Nat) : Nat := [1, 1, 2, 5, 4, 5, 6, 7].getD i 0
def exD (i : Nat) : Nat := if i = 0 ∨ i = 3 then 1 else 0
theorem ex_meant : (List.range 8).map (meantAt (exL nmT)) = [1, 1, 2, 5, 4, 5, 6, 7] := by rfl
theorem ex_uf : UF ((List.range (exL nmT).length).map (meantAt (exL nmT))) exR exD := by
  show UF ((List.range 8).map (meantAt (exL nmT))) exR exD
  rw [ex_meant]
  refine ⟨?_, ?_, ?_, ?_, ?_⟩
  · exact all8 ⟨by decide, by decide, by decide, by decide, by decide, by decide, by decide, by decide⟩
  · exact all8 ⟨by decide, by decide, by decide, by decide, by decide, by decide, by decide, by decide⟩
  · exact all8 ⟨by decide, by decide, by decide, by decide, by decide, by decide, by decide, by decide⟩
  · exact all8 ⟨by decide, by decide, by decide, by decide, by decide, by decide, by decide, by decide⟩
  · exact all8 ⟨by decide, by decide, by decide, by decide, by decide, by decide, by decide, by decide⟩
def exT : List Ty := [⟨5, [0], false⟩, ⟨5, [2], false⟩, ⟨5, [1], false⟩]
theorem ex_rows : rowsGo (exL nmT) (fun i => ownOf (exL nmT) (exR i)) (exL nmT).length = exT := by rfl
theorem ex_of : tabL (exL nmT).length (fun i => ownOf (exL nmT) (exR i)) = [0, 0, -1, 2, 1, 2, -1, -1] := by rfl
theorem ex_valid : validI exT = true := by rfl
theorem ex_load : load exT id = 6 := by rfl
theorem ex_bis {a b : Nat} (ha : a < 3) (hb : b < 3) : Bis exT a b := by
  have al : ∀ x, x < 3 → Alike (tyN exT x) ⟨5, [0], false⟩ ∧ kidN exT x 0 < 3 := fun x hx => match x, hx with
    | 0, _ => ⟨⟨rfl, rfl, rfl⟩, by decide⟩
    | 1, _ => ⟨⟨rfl, rfl, rfl⟩, by decide⟩
    | 2, _ => ⟨⟨rfl, rfl, rfl⟩, by decide⟩
  refine ⟨fun x y => x < 3 ∧ y < 3, fun x y h => ?_, ha, hb⟩
  obtain ⟨x1, x2⟩ := al x h.1
  obtain ⟨y1, y2⟩ := al y h.2
  refine ⟨x1.trans y1.symm, fun k hk => ?_⟩
  have : k = 0 := by have := x1.len; simp at this; omega
  subst this
  exact ⟨x2, y2⟩
theorem ex_tywf : ∀ j, j < exT.length → TyWf (tyN exT j) := fun j hj => match j, hj with
  | 0, _ => ⟨by unfold I64; decide, by intro k hk; simp [exT, tyN] at hk; subst hk; unfold I64; omega⟩
  | 1, _ => ⟨by unfold I64; decide, by intro k hk; simp [exT, tyN] at hk; subst hk; unfold I64; omega⟩
  | 2, _ => ⟨by unfold I64; decide, by intro k hk; simp [exT, tyN] at hk; subst hk; unfold I64; omega⟩
theorem ex_tylen : ∀ j, j < exT.length → (tyN exT j).kids.length ≤ maxLen := fun j hj => match j, hj with
  | 0, _ => by decide
  | 1, _ => by decide
  | 2, _ => by decide
end Go.Proofs.YtllgaholkminnaaDoor
namespace Go.Proofs.YtllgaholkminnaaDoor
open Go.RowKit
set_option linter.unusedVariables false
set_option linter.unusedSimpArgs false

theorem alloc7 (w : World) (o0 o1 o2 o3 o4 o5 o6 : Obj) : ∃ W, W = (((((((w.alloc o0).alloc o1).alloc o2).alloc o3).alloc o4).alloc o5).alloc o6) ∧ W.heap[w.heap.size]? = some o0 ∧ W.heap[w.heap.size + 1]? = some o1 ∧ W.heap[w.heap.size + 2]? = some o2 ∧ W.heap[w.heap.size + 3]? = some o3 ∧ W.heap[w.heap.size + 4]? = some o4 ∧ W.heap[w.heap.size + 5]? = some o5 ∧ W.heap[w.heap.size + 6]? = some o6 ∧ Below w.heap.size w W := by
  have s1 : (w.alloc o0).heap.size = w.heap.size + 1 := by simp
  have s2 : ((w.alloc o0).alloc o1).heap.size = w.heap.size + 2 := by simp
  have s3 : (((w.alloc o0).alloc o1).alloc o2).heap.size = w.heap.size + 3 := by simp
  have s4 : ((((w.alloc o0).alloc o1).alloc o2).alloc o3).heap.size = w.heap.size + 4 := by simp
  have s5 : (((((w.alloc o0).alloc o1).alloc o2).alloc o3).alloc o4).heap.size = w.heap.size + 5 := by simp
  have s6 : ((((((w.alloc o0).alloc o1).alloc o2).alloc o3).alloc o4).alloc o5).heap.size = w.heap.size + 6 := by simp
  have t1 := heap_alloc_new (w.alloc o0) o1
  have t2 := heap_alloc_new ((w.alloc o0).alloc o1) o2
  have t3 := heap_alloc_new (((w.alloc o0).alloc o1).alloc o2) o3
  have t4 := heap_alloc_new ((((w.alloc o0).alloc o1).alloc o2).alloc o3) o4
  have t5 := heap_alloc_new (((((w.alloc o0).alloc o1).alloc o2).alloc o3).alloc o4) o5
  have t6 := heap_alloc_new ((((((w.alloc o0).alloc o1).alloc o2).alloc o3).alloc o4).alloc o5) o6
  rw [s1] at t1
  rw [s2] at t2
  rw [s3] at t3
  rw [s4] at t4
  rw [s5] at t5
  rw [s6] at t6
  refine ⟨_, rfl, ?_, ?_, ?_, ?_, ?_, ?_, t6, ?_⟩
  · rw [(below1 _ o6).block _ (by omega), (below1 _ o5).block _ (by omega), (below1 _ o4).block _ (by omega), (below1 _ o3).block _ (by omega), (below1 _ o2).block _ (by omega), (below1 _ o1).block _ (by omega)]; exact heap_alloc_new w o0
  · rw [(below1 _ o6).block _ (by omega), (below1 _ o5).block _ (by omega), (below1 _ o4).block _ (by omega), (below1 _ o3).block _ (by omega), (below1 _ o2).block _ (by omega)]; exact t1
  · rw [(below1 _ o6).block _ (by omega), (below1 _ o5).block _ (by omega), (below1 _ o4).block _ (by omega), (below1 _ o3).block _ (by omega)]; exact t2
  · rw [(below1 _ o6).block _ (by omega), (below1 _ o5).block _ (by omega), (below1 _ o4).block _ (by omega)]; exact t3
  · rw [(below1 _ o6).block _ (by omega), (below1 _ o5).block _ (by omega)]; exact t4
  · rw [(below1 _ o6).block _ (by omega)]; exact t5
  · exact ((((((below1 w o0).trans ((below1 _ o1).mono (by omega))).trans ((below1 _ o2).mono (by omega))).trans ((below1 _ o3).mono (by omega))).trans ((below1 _ o4).mono (by omega))).trans ((below1 _ o5).mono (by omega))).trans ((below1 _ o6).mono (by omega))

theorem ex_start (w : World) : ExAt (((((((w.alloc (.cells #[.int .i64 0] 3)).alloc (.cells #[.int .i64 1] 3)).alloc (.cells #[.int .i64 3] 3)).alloc (.cells #[.int .i64 4] 3)).alloc (.cells #[.int .i64 5] 3)).alloc (.cells #[.int .i64 2, .int .i64 6] 3)).alloc (.cells (exC w.heap.size nmT) 37)) w.heap.size nmT ∧ Below w.heap.size w (((((((w.alloc (.cells #[.int .i64 0] 3)).alloc (.cells #[.int .i64 1] 3)).alloc (.cells #[.int .i64 3] 3)).alloc (.cells #[.int .i64 4] 3)).alloc (.cells #[.int .i64 5] 3)).alloc (.cells #[.int .i64 2, .int .i64 6] 3)).alloc (.cells (exC w.heap.size nmT) 37)) := by
  obtain ⟨W, hW, q0, q1, q2, q3, q4, q5, q6, q7⟩ := alloc7 w (.cells #[.int .i64 0] 3) (.cells #[.int .i64 1] 3) (.cells #[.int .i64 3] 3) (.cells #[.int .i64 4] 3) (.cells #[.int .i64 5] 3) (.cells #[.int .i64 2, .int .i64 6] 3) (.cells (exC w.heap.size nmT) 37)
  rw [← hW]
  exact ⟨⟨q0, q1, q2, q3, q4, q5, q6⟩, q7⟩
/-- what is shown of firstOpen -/
def FoC : Prop := ∀ (w : World) (B nb no nc : Nat) (l : List Nd) (mb mn mc : Nat), Nodes w B nb no nc l → 0 < l.length → l.length ≤ 2147483640 → LeafD l → Calls Tryd.prog 28 #[.slice (some ⟨nb, no, none⟩) l.length nc, .slice (some ⟨mb, 0, none⟩) mn mc] w fun e w' => e = .returned (.int .i64 (-1)) ∧ Below w.heap.size w w'
theorem Table_exT (hfo : FoC) (W : World) (s : Nat) (hx : ExAt W s nmT) (hL : Laid W) :
    Calls Tryd.prog 18 #[.slice (some ⟨s + 6, 0, none⟩) 8 8] W fun e w' => ∃ g cp ob b0, e = .returned (.tuple #[.slice (some ⟨g, 0, none⟩) 3 cp, .slice (some ⟨ob, 0, none⟩) 8 8, .agg #[.int .i64 0, .int .i64 0]]) ∧ Bx (TysO w' b0 (.slice (some ⟨g, 0, none⟩) 3 cp) exT ∧ IRow w' ob [0, 0, -1, 2, 1, 2, -1, -1] ∧ W.heap.size ≤ b0 ∧ Below W.heap.size W w') := by
  have hn := hx.nodes (by decide)
  refine Calls.mono (Table_ok W (s + 7) (s + 6) 0 8 (exL nmT) exR exD hn hL (by decide) (by decide) check_exT (ex_decl _) (ex_twice _) ex_known ex_uf (ex_kidsin _) (ex_kidlen _) (fun W' hb mb mn mc => hfo W' (s + 7) (s + 6) 0 8 (exL nmT) mb mn mc (hn.below (hb.mono hn.hi)) (by decide) (by decide) (ex_leaf _))) ?_
  rintro e w' ⟨v, ob, b0, rfl, h1, h2, h3, h4⟩
  obtain ⟨t1, t2, t3⟩ := h1
  rw [ex_rows] at t1
  rw [ex_of] at t2
  obtain ⟨g, cp, rfl, _⟩ := t1.types (by decide) ex_tywf ex_tylen
  exact ⟨g, cp, ob, b0, rfl, t1, t2, h2, h4⟩
theorem Table_exV (W : World) (s : Nat) (hx : ExAt W s nmV) (hL : Laid W) :
    Calls Tryd.prog 18 #[.slice (some ⟨s + 6, 0, none⟩) 8 8] W fun e w' => e = .returned (.tuple #[.slice none 0 0, .slice none 0 0, .agg #[.int .i64 9, .int .i64 41]]) ∧ Below W.heap.size W w' :=
  Table_bad W (s + 7) (s + 6) 0 8 0 (exL nmV) (hx.nodes (by decide)) hL (by decide) (by decide) check_exV (ex_decl _) (ex_twice _) (by decide) ex_unknown (fun j hj => absurd hj (by omega))
/-- the table and the fault, in the midst of shown -/
structure ShS (w0 W : World) (gb b0 g cp : Nat) : Prop where
  tys : TysO W b0 (.slice (some ⟨g, 0, none⟩) 3 cp) exT
  flt : W.heap[gb]? = some (.cells #[.int .i64 9, .int .i64 41] 41 (0, 0))
  bel : Below w0.heap.size w0 W
theorem ShS.ext {w0 W W' : World} {gb b0 g cp : Nat} (h : ShS w0 W gb b0 g cp) (hb : Below W.heap.size W W') : ShS w0 W' gb b0 g cp :=
  ⟨h.tys.ext hb, by rw [hb.block gb (Array.getElem?_eq_some_iff.1 h.flt).1]; exact h.flt, h.bel.trans (hb.mono h.bel.size)⟩
theorem ShS.same {w0 W : World} {gb b0 g cp : Nat} (h : ShS w0 W gb b0 g cp) (a b : Nat) (ha : a < 3) (hb : b < 3) : Calls Tryd.prog 15 #[.slice (some ⟨g, 0, none⟩) 3 cp, .int .i64 a, .int .i64 b] W fun e w' => e = .returned (.bool true) ∧ Bx (ShS w0 w' gb b0 g cp) := by
  obtain ⟨g', cp', e, ht⟩ := h.tys.types (by decide) ex_tywf ex_tylen
  simp only [Value.slice.injEq, Option.some.injEq, Addr.mk.injEq, and_true] at e
  obtain ⟨rfl, _, rfl⟩ := e
  refine Calls.mono (Same_yes W _ g 0 cp exT a b ht ex_valid ha hb (by rw [ex_load]; omega)) ?_
  rintro e w' ⟨r, rfl, h1, h2⟩
  have : r = true := h1.2 (ex_bis ha hb)
  subst this
  exact ⟨rfl, ⟨h.ext h2⟩⟩
theorem ShS.valid {w0 W : World} {gb b0 g cp : Nat} (h : ShS w0 W gb b0 g cp) : Calls Tryd.prog 12 #[.slice (some ⟨g, 0, none⟩) 3 cp] W fun e w' => e = .returned (.bool true) ∧ Bx (ShS w0 w' gb b0 g cp) := by
  obtain ⟨g', cp', e, ht⟩ := h.tys.types (by decide) ex_tywf ex_tylen
  simp only [Value.slice.injEq, Option.some.injEq, Addr.mk.injEq, and_true] at e
  obtain ⟨rfl, _, rfl⟩ := e
  refine Calls.mono (Valid_some W _ g 0 cp exT ht (by decide)) ?_
  rintro e w' ⟨rfl, h2⟩
  rw [ex_valid]
  exact ⟨rfl, ⟨h.ext h2⟩⟩
def badT : List Ty := [⟨3, [], false⟩]
theorem bad_valid (W : World) : Calls Tryd.prog 12 #[.slice (some ⟨W.heap.size, 0, none⟩) 1 1] (W.alloc (.cells #[.int .i64 3, .slice none 0 0, .bool false] 32)) fun e w' => e = .returned (.bool false) ∧ Below (W.alloc (.cells #[.int .i64 3, .slice none 0 0, .bool false] 32)).heap.size (W.alloc (.cells #[.int .i64 3, .slice none 0 0, .bool false] 32)) w' := by
  have hc : ∀ i, (W.alloc (.cells #[.int .i64 3, .slice none 0 0, .bool false] 32)).cell? ⟨W.heap.size, i, none⟩ = (#[.int .i64 3, .slice none 0 0, .bool false] : Array Value)[i]? := fun i => cell_of_row _ _ i _ _ (0, 0) (heap_alloc_new W _)
  have ht : Types (W.alloc (.cells #[.int .i64 3, .slice none 0 0, .bool false] 32)) (W.heap.size + 1) W.heap.size 0 1 badT := by
    refine ⟨fun j hj => ?_, fun j hj => ?_, by omega, by simp, by simp [badT, maxLen], by simp [badT]⟩
    · match j, hj with
      | 0, _ => exact ⟨none, 0, hc 0, hc 1, hc 2, ints0 _ _⟩
    · match j, hj with
      | 0, _ => exact ⟨by unfold I64; decide, by intro k hk; simp [badT, tyN] at hk⟩
  exact Valid_some _ _ W.heap.size 0 1 badT ht (by decide)

set_option maxRecDepth 100000 in
set_option maxHeartbeats 4000000 in
theorem shown_of (hfo : FoC) (w : World) (hL : Laid w) : Calls Tryd.prog 10 #[] w fun e w' => e = .returned (.bool true) ∧ Below w.heap.size w w' := by
  have HLB : Bx (∀ W, Below w.heap.size w W → Laid W) := ⟨fun W hb => hL.below hb⟩
  have HT1 : Bx (∀ W s, ExAt W s nmT → Laid W → _) := ⟨fun W s => Table_exT hfo W s⟩
  have FIRST : Bx True := ⟨trivial⟩
  have hSz : w.heap.size = w.heap.size := rfl
  clear hL hSz
  go_enter Tryd.func10, Tryd.ntmps10
  go_wp2_with (first
    | (go_at_call 18; have := FIRST; refine Calls.mono (HT1.out _ w.heap.size (ex_start w).1 (HLB.out _ (ex_start w).2)) ?_; clear this FIRST; rintro e w1 ⟨g, cp, ob, b0, rfl, ⟨hty, hir, hb0, hb1⟩⟩; have EX1 : Bx _ := ⟨(ex_start w).1.below hb1 (ExAt.lt (ex_start w).1)⟩; have hlt1 := (ExAt.lt (ex_start w).1); have BW1 : Bx (Below w.heap.size w w1) := ⟨(ex_start w).2.trans (hb1.mono (ex_start w).2.size)⟩; have TY1 : Bx _ := ⟨hty⟩; have r0 := hir.cell 0 (by decide); have r2 := hir.cell 2 (by decide); have r3 := hir.cell 3 (by decide); have r4 := hir.lt; simp only [List.getD_cons_zero, List.getD_cons_succ] at r0 r2 r3; have x1 : w1.cell? ⟨w.heap.size + 1 + 1 + 1 + 1 + 1 + 1, 3, none⟩ = some (.string ⟨#[84]⟩) := EX1.out.cell 3; have x2 : w1.frozen? ⟨w.heap.size + 1 + 1 + 1 + 1 + 1 + 1, 3, none⟩ = false := (by simp [World.frozen?, show w1.heap[w.heap.size + 1 + 1 + 1 + 1 + 1 + 1]? = _ from EX1.out.b6]); have x3 : w.heap.size + 1 + 1 + 1 + 1 + 1 + 1 < w1.heap.size := EX1.out.lt; have hb0' : w.heap.size + 6 < b0 := Nat.lt_of_lt_of_le hlt1 hb0; clear hty hir hb1 hb0 hlt1)
    | (go_at_call 18; refine Calls.mono (Table_exV _ w.heap.size ((EX1.out.turn nmV).below (below1 _ _) (by simp; omega)) (HLB.out _ ((Below.setCell (p := ⟨w.heap.size + 6, 3, none⟩) BW1.out (by show w.heap.size ≤ w.heap.size + 6; omega) _).trans ((below1 _ _).mono (by simp; omega))))) ?_; rintro e w2 ⟨rfl, hb2⟩; have hs2 := hb2.size; simp at hs2; have SH : Bx (ShS w (w2.alloc (.cells #[.int .i64 9, .int .i64 41] 41)) w2.heap.size b0 g cp) := ⟨⟨(((TY1.out.only (Only.set (w.heap.size + 6) w1 3 (.string nmV)) hb0').ext (below1 _ _)).ext hb2).ext (below1 _ _), heap_alloc_new w2 _, (((Below.setCell (p := ⟨w.heap.size + 6, 3, none⟩) BW1.out (by show w.heap.size ≤ w.heap.size + 6; omega) (.string nmV)).trans ((below1 _ _).mono (by simp; omega))).trans (hb2.mono (by simp; omega))).trans ((below1 _ _).mono (by omega))⟩⟩; have S1 : Bx True := ⟨trivial⟩; have V1 : Bx True := ⟨trivial⟩; clear hb2 r0 r2 r3 r4 x1 x2 x3 EX1)
    | (go_at_call 15; have := S1; refine Calls.mono (SH.out.same 0 1 (by decide) (by decide)) ?_; clear this S1; rintro e w3 ⟨rfl, SH2⟩)
    | (go_at_call 15; refine Calls.mono (SH2.out.same 1 2 (by decide) (by decide)) ?_; rintro e w4 ⟨rfl, SH3⟩)
    | (go_at_call 12; have := V1; refine Calls.mono SH3.out.valid ?_; clear this V1; rintro e w5 ⟨rfl, SH4⟩)
    | (go_at_call 12; refine Calls.mono (bad_valid _) ?_; rintro e w6 ⟨rfl, hb6⟩; have SH5 : Bx _ := ⟨(SH4.out.ext (below1 _ _)).ext hb6⟩; have f0 : w6.cell? ⟨w2.heap.size, 0, none⟩ = some (.int .i64 9) := (cell_of_row _ _ 0 _ _ _ SH5.out.flt).trans rfl; have f1 : w6.cell? ⟨w2.heap.size, 1, none⟩ = some (.int .i64 41) := (cell_of_row _ _ 1 _ _ _ SH5.out.flt).trans rfl; clear hb6))
  go_ret
  exact ⟨rfl, SH5.out.bel⟩
end Go.Proofs.YtllgaholkminnaaDoor
