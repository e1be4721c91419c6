import Derived.Test.YtblhklbpcalglaaGreatDoorCTKf
import Derived.Test.YtblhklbpcalglaaGreatDoorCPW
import Derived.Deep.DeepFit
import Derived.Deep.DrawnRows
import Derived.Deep.LoopGhost
namespace Go.Proofs.YtblhklbpcalglaaGreatDoor
open Go.RowKit
set_option linter.unusedVariables false
set_option linter.unusedSimpArgs false
def emptyB (s : ByteArray) : Bool := s.toList.isEmpty
def nameFitsI (kind : Int) (nm : ByteArray) : Bool :=
  if kind = 20 ∨ kind = 43 then emptyB nm || nameOk nm.data.toList
  else if kind = 3 ∨ kind = 13 ∨ kind = 31 ∨ kind = 32 ∨ kind = 42 ∨ kind = 45 then nameOk nm.data.toList
  else emptyB nm
end Go.Proofs.YtblhklbpcalglaaGreatDoor
namespace Go.Proofs.YtblhklbpcalglaaGreatDoor
open Go.RowKit
set_option linter.unusedVariables false
set_option linter.unusedSimpArgs false
structure NdAt (w : World) (B b o : Nat) (n : Nd) (ka : Option Addr) (kc : Nat) : Prop where
  c0 : w.cell? ⟨b, o, none⟩ = some (.int .i64 n.kind)
  c1 : w.cell? ⟨b, o + 1, none⟩ = some (.int .i64 n.pos)
  c2 : w.cell? ⟨b, o + 2, none⟩ = some (.slice ka n.kids.length kc)
  c3 : w.cell? ⟨b, o + 3, none⟩ = some (.string n.name)
  c4 : w.cell? ⟨b, o + 4, none⟩ = some (.int .i64 n.num)
  kids : IntsV w B (.slice ka n.kids.length kc) n.kids
def I64 (x : Int) : Prop := -9223372036854775808 ≤ x ∧ x ≤ 9223372036854775807
structure NdWf (n : Nd) : Prop where
  kind : I64 n.kind
  pos : I64 n.pos
  num : I64 n.num
  name : n.name.size ≤ maxLen
  kids : ∀ k ∈ n.kids, I64 k
structure Nodes (w : World) (B nb no nc : Nat) (l : List Nd) : Prop where
  at_ : ∀ j, j < l.length → ∃ ka kc, NdAt w B nb (no + j * 5) (ndN l j) ka kc
  wf : ∀ j, j < l.length → NdWf (ndN l j)
  lo : nb < B
  hi : B ≤ w.heap.size
  max : l.length ≤ maxLen
  cap : l.length ≤ nc
theorem NdAt.below {w w' : World} {B b o : Nat} {n : Nd} {ka : Option Addr} {kc : Nat} (h : NdAt w B b o n ka kc) (hb : Below B w w') (hlt : b < B) : NdAt w' B b o n ka kc := by
  have hc : ∀ i, w'.cell? ⟨b, i, none⟩ = w.cell? ⟨b, i, none⟩ := fun i => hb.cell (p := ⟨b, i, none⟩) hlt
  exact ⟨by rw [hc]; exact h.c0, by rw [hc]; exact h.c1, by rw [hc]; exact h.c2, by rw [hc]; exact h.c3, by rw [hc]; exact h.c4, h.kids.below hb⟩
theorem Nodes.below {w w' : World} {B nb no nc : Nat} {l : List Nd} (h : Nodes w B nb no nc l) (hb : Below B w w') : Nodes w' B nb no nc l := by
  refine ⟨fun j hj => ?_, h.wf, h.lo, Nat.le_trans h.hi hb.size, h.max, h.cap⟩
  obtain ⟨ka, kc, hn⟩ := h.at_ j hj
  exact ⟨ka, kc, hn.below hb h.lo⟩
def Led (l : List Nd) (i : Nat) : Prop := ∀ j, j < i → (22 ≤ kdN l j → kdN l j ≤ 25 → ∃ k : Nat, ∃ r, (ndN l j).kids = (k : Int) :: r ∧ k < j)
end Go.Proofs.YtblhklbpcalglaaGreatDoor
namespace Go.Proofs.YtblhklbpcalglaaGreatDoor
open Go.RowKit
set_option linter.unusedVariables false
set_option linter.unusedSimpArgs false
def Five (w : World) (b o : Nat) (k p : Int) (ka : Option Addr) (n kc : Nat) (nm : ByteArray) (num : Int) : Prop :=
  w.cell? ⟨b, o, none⟩ = some (.int .i64 k) ∧ w.cell? ⟨b, o + 1, none⟩ = some (.int .i64 p) ∧ w.cell? ⟨b, o + 2, none⟩ = some (.slice ka n kc) ∧ w.cell? ⟨b, o + 3, none⟩ = some (.string nm) ∧ w.cell? ⟨b, o + 4, none⟩ = some (.int .i64 num)
theorem Five.below {w w' : World} {B b o : Nat} {k p : Int} {ka : Option Addr} {n kc : Nat} {nm : ByteArray} {num : Int} (h : Five w b o k p ka n kc nm num) (hb : Below B w w') (hlt : b < B) : Five w' b o k p ka n kc nm num := by
  have hc : ∀ i, w'.cell? ⟨b, i, none⟩ = w.cell? ⟨b, i, none⟩ := fun i => hb.cell (p := ⟨b, i, none⟩) hlt
  obtain ⟨a1, a2, a3, a4, a5⟩ := h
  exact ⟨by rw [hc]; exact a1, by rw [hc]; exact a2, by rw [hc]; exact a3, by rw [hc]; exact a4, by rw [hc]; exact a5⟩
theorem NdAt.five {w : World} {B b o : Nat} {n : Nd} {ka : Option Addr} {kc : Nat} (h : NdAt w B b o n ka kc) : Five w b o n.kind n.pos ka n.kids.length kc n.name n.num := ⟨h.c0, h.c1, h.c2, h.c3, h.c4⟩
def LfMem (w : World) (o : Obj) (wr : World) : Prop := Below (w.heap.size + 1) (w.alloc o) wr
theorem LfMem.below {w wr : World} {o : Obj} (h : LfMem w o wr) : Below w.heap.size w wr := (below1 w o).trans (Below.mono h (by omega))
end Go.Proofs.YtblhklbpcalglaaGreatDoor
namespace Go.Proofs.YtblhklbpcalglaaGreatDoor
set_option linter.unusedVariables false
set_option linter.unusedSimpArgs false
def checkNodeI (l : List Nd) (fs : List Nat) (i : Nat) : Nat :=
  if kindI (ndN l i).kind = false ∨ (ndN l i).pos < 0 then 20
  else if numFitsI (ndN l i).kind (ndN l i).num (ndN l i).kids.length = false then 23
  else if nameFitsI (ndN l i).kind (ndN l i).name = false then 22
  else if orderI fs i (ndN l i).kids = false ∨ kidsFitI (kdN l) (ndN l i).kind (ndN l i).num ((ndN l i).kids.map Int.toNat) = false then 21
  else if levelsFitI l (ndN l i) = false then 24
  else 0
theorem order_in {fs : List Nat} (hle : ∀ j, j < fs.length → fs.getD j 0 ≤ j) : ∀ (ks : List Int) (nx : Nat), nx ≤ fs.length → orderGo fs nx ks = true → ∀ k ∈ ks, ∃ m : Nat, k = (m : Int) ∧ m < fs.length
  | [], _, _, _, k, hk => by cases hk
  | x :: r, nx, hnx, h, k, hk => by
    rw [orderGo] at h
    split at h
    · rename_i hx
      obtain ⟨y, rfl⟩ : ∃ y : Nat, x = (y : Int) := ⟨x.toNat, by omega⟩
      have hy : y < fs.length := by omega
      rcases List.mem_cons.1 hk with rfl | hk
      · exact ⟨y, rfl, hy⟩
      · rw [Int.toNat_natCast] at h
        have := hle y hy
        exact order_in hle r (fs.getD y 0) (by omega) h k hk
    · cases h
theorem kids_at {fs : List Nat} (hle : ∀ j, j < fs.length → fs.getD j 0 ≤ j) {kids : List Int} (h : orderI fs fs.length kids = true) (j : Nat) (hj : j < kids.length) : ∃ k : Nat, kids[j] = (k : Int) ∧ k < fs.length :=
  order_in hle kids.reverse fs.length (Nat.le_refl _) h _ (by simp)
end Go.Proofs.YtblhklbpcalglaaGreatDoor
namespace Go.Proofs.YtblhklbpcalglaaGreatDoor
open Go.RowKit
set_option linter.unusedVariables false
set_option linter.unusedSimpArgs false
structure CkS (w : World) (k p : Int) (ka : Option Addr) (n kc : Nat) (nm : ByteArray) (num : Int) (W : World) : Prop where
  bel : Below w.heap.size w W
  five : Five W w.heap.size 0 k p ka n kc nm num
  size : w.heap.size < W.heap.size
theorem CkS.step {w : World} {k p : Int} {ka : Option Addr} {n kc : Nat} {nm : ByteArray} {num : Int} {W W' : World} (h : CkS w k p ka n kc nm num W) (hb : Below W.heap.size W W') : CkS w k p ka n kc nm num W' :=
  ⟨h.bel.trans (hb.mono (Nat.le_of_lt h.size)), h.five.below hb h.size, Nat.lt_of_lt_of_le h.size hb.size⟩
structure CkW (W : World) (B nb no nc fb N fc : Nat) (l : List Nd) (fs : List Nat) : Prop where
  nodes : Nodes W B nb no nc l
  led : Led l fs.length
  firsts : FirstsAt W fb fs
  laid : Laid W
  fbl : fb < W.heap.size
theorem CkW.below {W W' : World} {B nb no nc fb N fc : Nat} {l : List Nd} {fs : List Nat} (h : CkW W B nb no nc fb N fc l fs) (hb : Below W.heap.size W W') : CkW W' B nb no nc fb N fc l fs :=
  ⟨h.nodes.below (hb.mono h.nodes.hi), h.led, fun j hj => by rw [hb.cell (p := ⟨fb, j, none⟩) h.fbl]; exact h.firsts j hj, h.laid.below hb, Nat.lt_of_lt_of_le h.fbl hb.size⟩
end Go.Proofs.YtblhklbpcalglaaGreatDoor
namespace Go.Proofs.YtblhklbpcalglaaGreatDoor
set_option linter.unusedVariables false
set_option linter.unusedSimpArgs false
def firstOf (fs : List Nat) (n : Nd) (i : Nat) : Nat :=
  match n.kids with
  | [] => i
  | k :: _ => fs.getD k.toNat 0
def rootI (l : List Nd) (fs : List Nat) : Nat × Nat :=
  if l.length = 0 ∨ kdN l (l.length - 1) ≠ 46 ∨ fs.getD (l.length - 1) 0 ≠ 0 then (l.length, 25) else (0, 0)
def checkGo (l : List Nd) : Nat → List Nat → Nat × Nat
  | 0, fs => rootI l fs
  | m + 1, fs => if checkNodeI l fs fs.length = 0 then checkGo l m (fs ++ [firstOf fs (ndN l fs.length) fs.length]) else (fs.length, checkNodeI l fs fs.length)
def checkAll (l : List Nd) : Nat × Nat := checkGo l l.length []
theorem node_zero {l : List Nd} {fs : List Nat} {i : Nat} (h : checkNodeI l fs i = 0) :
    kindI (ndN l i).kind = true ∧ ¬ (ndN l i).pos < 0 ∧ numFitsI (ndN l i).kind (ndN l i).num (ndN l i).kids.length = true ∧ nameFitsI (ndN l i).kind (ndN l i).name = true ∧ orderI fs i (ndN l i).kids = true
      ∧ kidsFitI (kdN l) (ndN l i).kind (ndN l i).num ((ndN l i).kids.map Int.toNat) = true ∧ levelsFitI l (ndN l i) = true := by
  unfold checkNodeI at h
  split at h
  · cases h
  rename_i h1
  split at h
  · cases h
  rename_i h2
  split at h
  · cases h
  rename_i h3
  split at h
  · cases h
  rename_i h4
  split at h
  · cases h
  rename_i h5
  simp only [not_or, Bool.not_eq_false] at h1 h2 h3 h4 h5
  exact ⟨h1.1, h1.2, h2, h3, h4.1, h4.2, h5⟩
theorem kids_ne {f : Nat → Int} {k num : Int} {ks : List Nat} (h : kidsFitI f k num ks = true) (hk : k = 22 ∨ k = 23 ∨ k = 24 ∨ k = 25 ∨ k = 44) : ks ≠ [] := by
  intro e
  subst e
  unfold kidsFitI at h
  rcases hk with rfl | rfl | rfl | rfl | rfl
  · rw [kidsRun_22] at h; simp [fitS, cOne, took] at h
  · rw [kidsRun_23] at h; simp [fitS, cOne, cMany, took] at h
  · rw [kidsRun_24] at h; simp [fitS, cOne, took] at h
  · rw [kidsRun_25] at h; simp [fitS, cOne, took] at h
  · rw [kidsRun_44] at h; simp [fitS, cOne, took] at h
theorem first_le {fs : List Nat} (hle : ∀ j, j < fs.length → fs.getD j 0 ≤ j) {n : Nd} (ho : orderI fs fs.length n.kids = true) : firstOf fs n fs.length ≤ fs.length := by
  unfold firstOf
  match hk : n.kids with
  | [] => simp
  | k :: r =>
    rw [hk] at ho
    obtain ⟨m, hm, hlt⟩ := kids_at hle ho 0 (by simp)
    simp at hm
    subst hm
    have := hle m hlt
    simp only [Int.toNat_natCast]
    omega
theorem snoc_le {fs : List Nat} {x : Nat} (hle : ∀ j, j < fs.length → fs.getD j 0 ≤ j) (hx : x ≤ fs.length) : ∀ j, j < (fs ++ [x]).length → (fs ++ [x]).getD j 0 ≤ j := by
  intro j hj
  simp at hj
  by_cases h : j < fs.length
  · have := hle j h
    simp only [List.getD_eq_getElem?_getD] at this ⊢
    rw [List.getElem?_append_left h]
    exact this
  · have : j = fs.length := by omega
    subst this
    simp [List.getD_eq_getElem?_getD, hx]
end Go.Proofs.YtblhklbpcalglaaGreatDoor
namespace Go.Proofs.YtblhklbpcalglaaGreatDoor
open Go.RowKit
set_option linter.unusedVariables false
set_option linter.unusedSimpArgs false
structure FRow (W : World) (fb N : Nat) (fs : List Nat) : Prop where
  ex : ∃ C : Array Value, W.heap[fb]? = some (.cells C 3 (0, 0)) ∧ C.size = N ∧ (∀ j, j < fs.length → C[j]? = some (.int .i64 (fs.getD j 0 : Nat))) ∧ ∀ j, j < N → ∃ x : Int, C[j]? = some (.int .i64 x)
theorem FRow.firsts {W : World} {fb N : Nat} {fs : List Nat} (h : FRow W fb N fs) : FirstsAt W fb fs := by
  obtain ⟨C, h1, h2, h3, _⟩ := h.ex
  intro j hj
  rw [cell_of_row W fb j C 3 (0, 0) h1]
  exact h3 j hj
theorem FRow.cell {W : World} {fb N : Nat} {fs : List Nat} (h : FRow W fb N fs) (j : Nat) (hj : j < N) : ∃ x : Int, W.cell? ⟨fb, j, none⟩ = some (.int .i64 x) := by
  obtain ⟨C, h1, h2, h3, h4⟩ := h.ex
  obtain ⟨x, hx⟩ := h4 j hj
  exact ⟨x, by rw [cell_of_row W fb j C 3 (0, 0) h1]; exact hx⟩
theorem FRow.frozen {W : World} {fb N : Nat} {fs : List Nat} (h : FRow W fb N fs) (j : Nat) : W.frozen? ⟨fb, j, none⟩ = false := by
  obtain ⟨C, h1, _⟩ := h.ex
  simp [World.frozen?, h1]
theorem FRow.lt {W : World} {fb N : Nat} {fs : List Nat} (h : FRow W fb N fs) : fb < W.heap.size := by
  obtain ⟨C, h1, _⟩ := h.ex
  rcases Nat.lt_or_ge fb W.heap.size with h' | h'
  · exact h'
  · simp [Array.getElem?_eq_none h'] at h1
theorem FRow.below {W W' : World} {fb N : Nat} {fs : List Nat} (h : FRow W fb N fs) (hb : Below W.heap.size W W') : FRow W' fb N fs := by
  obtain ⟨C, h1, h2⟩ := h.ex
  exact ⟨C, by rw [hb.block fb h.lt]; exact h1, h2⟩
theorem FRow.set {W : World} {fb N : Nat} {fs : List Nat} (h : FRow W fb N fs) (hi : fs.length < N) (x : Nat) : FRow (W.setCell ⟨fb, fs.length, none⟩ (.int .i64 x)) fb N (fs ++ [x]) := by
  obtain ⟨C, h1, h2, h3, h4⟩ := h.ex
  refine ⟨C.setIfInBounds fs.length (.int .i64 x), heap_setCell_same W fb fs.length C 3 _ h1, by simp [h2], fun j hj => ?_, fun j hj => ?_⟩
  · rw [Array.getElem?_setIfInBounds]
    by_cases hj2 : j < fs.length
    · rw [if_neg (by omega), h3 j hj2]
      simp only [List.getD_eq_getElem?_getD]
      rw [List.getElem?_append_left hj2]
    · have : j = fs.length := by simp at hj; omega
      subst this
      rw [if_pos rfl, if_pos (by omega)]
      simp [List.getD_eq_getElem?_getD]
  · rw [Array.getElem?_setIfInBounds]
    by_cases hj2 : fs.length = j
    · rw [if_pos hj2, if_pos (by omega)]
      exact ⟨_, rfl⟩
    · rw [if_neg hj2]
      exact h4 j hj
theorem FRow.put {W : World} {fb N : Nat} {fs : List Nat} (h : FRow W fb N fs) (hi : fs.length < N) (v : Int) : FRow (W.setCell ⟨fb, fs.length, none⟩ (.int .i64 v)) fb N fs := by
  obtain ⟨C, h1, h2, h3, h4⟩ := h.ex
  refine ⟨C.setIfInBounds fs.length (.int .i64 v), heap_setCell_same W fb fs.length C 3 _ h1, by simp [h2], fun j hj => ?_, fun j hj => ?_⟩
  · rw [Array.getElem?_setIfInBounds, if_neg (by omega), h3 j hj]
  · rw [Array.getElem?_setIfInBounds]
    by_cases hj2 : fs.length = j
    · rw [if_pos hj2, if_pos (by omega)]
      exact ⟨_, rfl⟩
    · rw [if_neg hj2]
      exact h4 j hj
structure ChkS (w : World) (wr : World) (l : List Nd) (fs : List Nat) : Prop where
  bel : Below w.heap.size w wr
  row : FRow wr w.heap.size l.length fs
  le : ∀ j, j < fs.length → fs.getD j 0 ≤ j
  led : Led l fs.length
  eq : checkAll l = checkGo l (l.length - fs.length) fs
theorem led_snoc {l : List Nd} {fs : List Nat} (h : Led l fs.length) (hz : checkNodeI l fs fs.length = 0) (hle : ∀ j, j < fs.length → fs.getD j 0 ≤ j) : Led l (fs.length + 1) := by
  intro j hj h1 h2
  by_cases hj2 : j < fs.length
  · exact h j hj2 h1 h2
  · have : j = fs.length := by omega
    subst this
    obtain ⟨q1, q2, q3, q4, q5, q6, q7⟩ := node_zero hz
    have hne := kids_ne q6 (by unfold kdN at h1 h2; omega)
    match hk : (ndN l fs.length).kids with
    | [] => rw [hk] at hne; exact absurd rfl hne
    | k :: r =>
      rw [hk] at q5
      obtain ⟨m, hm, hlt⟩ := kids_at hle q5 0 (by simp)
      simp at hm
      exact ⟨m, r, by rw [hm], hlt⟩
theorem ChkS.next {w wr w1 : World} {l : List Nd} {fs : List Nat} (h : ChkS w wr l fs) (hi : fs.length < l.length) (hz : checkNodeI l fs fs.length = 0) (hbel : Below w.heap.size w w1) (hrow : FRow w1 w.heap.size l.length fs) :
    ∀ x, x = firstOf fs (ndN l fs.length) fs.length → ChkS w (w1.setCell ⟨w.heap.size, fs.length, none⟩ (.int .i64 (x : Nat))) l (fs ++ [x]) := by
  rintro x rfl
  obtain ⟨q1, q2, q3, q4, q5, q6, q7⟩ := node_zero hz
  have hr := hrow.set hi (firstOf fs (ndN l fs.length) fs.length)
  refine ⟨Below.setCell (p := ⟨w.heap.size, fs.length, none⟩) hbel (Nat.le_refl _) _, hr, snoc_le h.le (first_le h.le q5), ?_, ?_⟩
  · have := led_snoc h.led hz h.le
    simpa using this
  · rw [h.eq]
    obtain ⟨m, hm⟩ : ∃ m, l.length - fs.length = m + 1 := ⟨l.length - fs.length - 1, by omega⟩
    rw [hm, checkGo, if_pos hz]
    congr 1
    simp
    omega
end Go.Proofs.YtblhklbpcalglaaGreatDoor
namespace Go.Proofs.YtblhklbpcalglaaGreatDoor
open Go.RowKit
set_option linter.unusedVariables false
set_option linter.unusedSimpArgs false
theorem info3 : (Tryz.prog.info? 3).map (fun i => (i.zero, i.size, i.bytes)) = some (some (.int .i64 0), 1, 8) := by kernel_rfl
def zeros (N : Nat) : Array Value := madeCells #[.int .i64 0] (N * 1)
theorem make_ints (w : World) (N : Nat) (hN : N ≤ 2147483647) : (Instr.makeSlice 36 (.int .i64 N) (.int .i64 N)).run Tryz.prog w = .ok (.slice (some ⟨w.heap.size, 0, none⟩) N N) (w.alloc (.cells (zeros N) 3)) := by
  obtain ⟨i0, hi, hz0, hz1, hz2⟩ := info_parts info3
  have := run_make (P := Tryz.prog) w 36 3 i0 (.int .i64 0) Tryz.underlying36 hi hz0 .i64 .i64 (N : Int) (N : Int) (by omega) (by omega) (by rw [hz2]; omega) (by omega)
  rw [hz1] at this
  simpa [zeros, Value.cells] using this
theorem zeros_row (w : World) (N : Nat) : FRow (w.alloc (.cells (zeros N) 3)) w.heap.size N [] := by
  refine ⟨zeros N, heap_alloc_new w _, by simp [zeros, madeCells], (fun j hj => (by cases hj)), fun j hj => ⟨0, ?_⟩⟩
  simp [zeros, madeCells, hj, Nat.mod_one]
structure IsNodes (w : World) (B : Nat) (a : Option Addr) (cap : Nat) (l : List Nd) : Prop where
  at_ : 0 < l.length → ∃ nb no, a = some ⟨nb, no, none⟩ ∧ Nodes w B nb no cap l
  hi : B ≤ w.heap.size
theorem IsNodes.below {w w' : World} {B cap : Nat} {a : Option Addr} {l : List Nd} (h : IsNodes w B a cap l) (hb : Below B w w') : IsNodes w' B a cap l := by
  refine ⟨fun h0 => ?_, Nat.le_trans h.hi hb.size⟩
  obtain ⟨nb, no, e, hn⟩ := h.at_ h0
  exact ⟨nb, no, e, hn.below hb⟩
end Go.Proofs.YtblhklbpcalglaaGreatDoor
