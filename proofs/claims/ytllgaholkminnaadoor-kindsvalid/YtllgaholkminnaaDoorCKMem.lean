import Derived.Test.YtllgaholkminnaaDoorCTChk
import Derived.Test.YtllgaholkminnaaDoorCKP
import Derived.Maps.OwnSet
import Derived.Maps.OwnOps
namespace Go.Proofs.YtllgaholkminnaaDoor
open Go.RowKit
set_option linter.unusedVariables false
set_option linter.unusedSimpArgs false

/-- a row of types in memory -/
structure TyAt (w : World) (B b o : Nat) (n : Ty) (ka : Option Addr) (kc : Nat) : Prop where
  c0 : w.cell? ⟨b, o, none⟩ = some (.int .i64 n.kind)
  c1 : w.cell? ⟨b, o + 1, none⟩ = some (.slice ka n.kids.length kc)
  c2 : w.cell? ⟨b, o + 2, none⟩ = some (.bool n.res)
  kids : IntsV w B (.slice ka n.kids.length kc) n.kids
structure TyWf (n : Ty) : Prop where
  kind : I64 n.kind
  kids : ∀ k ∈ n.kids, I64 k
/-- types in memory, below a block's number -/
structure Types (w : World) (B nb no nc : Nat) (l : List Ty) : Prop where
  at_ : ∀ j, j < l.length → ∃ ka kc, TyAt w B nb (no + j * 3) (tyN l j) ka kc
  wf : ∀ j, j < l.length → TyWf (tyN l j)
  lo : nb < B
  hi : B ≤ w.heap.size
  max : l.length ≤ maxLen
  cap : l.length ≤ nc
theorem TyAt.below {w w' : World} {B b o : Nat} {n : Ty} {ka : Option Addr} {kc : Nat} (h : TyAt w B b o n ka kc) (hb : Below B w w') (hlt : b < B) : TyAt w' B b o n ka kc := by
  have hc : ∀ i, w'.cell? ⟨b, i, none⟩ = w.cell? ⟨b, i, none⟩ := fun i => hb.cell (p := ⟨b, i, none⟩) hlt
  exact ⟨by rw [hc]; exact h.c0, by rw [hc]; exact h.c1, by rw [hc]; exact h.c2, h.kids.below hb⟩
theorem Types.below {w w' : World} {B nb no nc : Nat} {l : List Ty} (h : Types w B nb no nc l) (hb : Below B w w') : Types w' B nb no nc l := by
  refine ⟨fun j hj => ?_, h.wf, h.lo, Nat.le_trans h.hi hb.size, h.max, h.cap⟩
  obtain ⟨ka, kc, hn⟩ := h.at_ j hj
  exact ⟨ka, kc, hn.below hb h.lo⟩
/-- types, as a slice's value has them: none, or some -/
structure IsTypes (w : World) (B : Nat) (a : Option Addr) (cap : Nat) (l : List Ty) : Prop where
  at_ : 0 < l.length → ∃ nb no, a = some ⟨nb, no, none⟩ ∧ Types w B nb no cap l
  hi : B ≤ w.heap.size
theorem IsTypes.below {w w' : World} {B cap : Nat} {a : Option Addr} {l : List Ty} (h : IsTypes w B a cap l) (hb : Below B w w') : IsTypes w' B a cap l := by
  refine ⟨fun h0 => ?_, Nat.le_trans h.hi hb.size⟩
  obtain ⟨nb, no, e, hn⟩ := h.at_ h0
  exact ⟨nb, no, e, hn.below hb⟩

/-- a whole row of numbers that is written in place -/
structure NRow (W : World) (fb : Nat) (xs : List Nat) : Prop where
  ex : ∃ C : Array Value, W.heap[fb]? = some (.cells C 3 (0, 0)) ∧ C.size = xs.length ∧ ∀ j, j < xs.length → C[j]? = some (.int .i64 (xs.getD j 0 : Nat))
theorem NRow.cell {W : World} {fb : Nat} {xs : List Nat} (h : NRow W fb xs) (j : Nat) (hj : j < xs.length) : W.cell? ⟨fb, j, none⟩ = some (.int .i64 (xs.getD j 0 : Nat)) := by
  obtain ⟨C, h1, h2, h3⟩ := h.ex
  rw [cell_of_row W fb j C 3 (0, 0) h1]
  exact h3 j hj
theorem NRow.frozen {W : World} {fb : Nat} {xs : List Nat} (h : NRow W fb xs) (j : Nat) : W.frozen? ⟨fb, j, none⟩ = false := by
  obtain ⟨C, h1, _⟩ := h.ex
  simp [World.frozen?, h1]
theorem NRow.lt {W : World} {fb : Nat} {xs : List Nat} (h : NRow W fb xs) : fb < W.heap.size := by
  obtain ⟨C, h1, _⟩ := h.ex
  rcases Nat.lt_or_ge fb W.heap.size with h' | h'
  · exact h'
  · simp [Array.getElem?_eq_none h'] at h1
theorem NRow.same {W W' : World} {fb : Nat} {xs : List Nat} (h : NRow W fb xs) (hb : W'.heap[fb]? = W.heap[fb]?) : NRow W' fb xs := by
  obtain ⟨C, h1, h2⟩ := h.ex
  exact ⟨C, by rw [hb]; exact h1, h2⟩
theorem NRow.below {W W' : World} {fb : Nat} {xs : List Nat} (h : NRow W fb xs) (hb : Below W.heap.size W W') : NRow W' fb xs := h.same (hb.block fb h.lt)
theorem NRow.set {W : World} {fb : Nat} {xs : List Nat} (h : NRow W fb xs) (i x : Nat) (hi : i < xs.length) : NRow (W.setCell ⟨fb, i, none⟩ (.int .i64 x)) fb (xs.set i x) := by
  obtain ⟨C, h1, h2, h3⟩ := h.ex
  refine ⟨C.setIfInBounds i (.int .i64 x), heap_setCell_same W fb i C 3 _ h1, by simp [h2], fun j hj => ?_⟩
  simp only [List.length_set] at hj
  rw [Array.getElem?_setIfInBounds, getD_set hi]
  by_cases e : i = j
  · rw [if_pos e, if_pos (by omega), if_pos e]
  · rw [if_neg e, if_neg e, h3 j hj]
theorem NRow.of_full {W : World} {fb N : Nat} {fs : List Nat} (h : FRow W fb N fs) (hN : fs.length = N) : NRow W fb fs := by
  obtain ⟨C, h1, h2, h3, _⟩ := h.ex
  exact ⟨C, h1, by omega, h3⟩
/-- one block is written, nothing else -/
structure Only (fb : Nat) (w w' : World) : Prop where
  size : w'.heap.size = w.heap.size
  block : ∀ x, x ≠ fb → w'.heap[x]? = w.heap[x]?
  bel : ∀ B w0, B ≤ fb → Below B w0 w → Below B w0 w'
theorem Only.refl (fb : Nat) (w : World) : Only fb w w := ⟨rfl, fun _ _ => rfl, fun _ _ _ h => h⟩
theorem Only.trans {fb : Nat} {w w1 w2 : World} (h : Only fb w w1) (g : Only fb w1 w2) : Only fb w w2 := ⟨g.size.trans h.size, fun x hx => (g.block x hx).trans (h.block x hx), fun B w0 hB hb => g.bel B w0 hB (h.bel B w0 hB hb)⟩
theorem Only.set (fb : Nat) (w : World) (i : Nat) (v : Value) : Only fb w (w.setCell ⟨fb, i, none⟩ v) := by
  refine ⟨?_, fun x hx => ?_, fun B w0 hB hb => Below.setCell (p := ⟨fb, i, none⟩) hb hB v⟩
  · simp
  · exact heap_setCell_other w _ x v hx
end Go.Proofs.YtllgaholkminnaaDoor
namespace Go.Proofs.YtllgaholkminnaaDoor
open Go.RowKit
set_option linter.unusedVariables false
set_option linter.unusedSimpArgs false

/-- what a name that is declared in a list means -/
def isDecl (nm : ByteArray) (n : Nd) : Bool := n.kind == 45 && decide (n.name = nm)
def declOf (l : List Nd) (nm : ByteArray) : Option Int := (l.find? (isDecl nm)).map fun n => n.kids.getD 0 0
def twiceAt (l : List Nd) (i : Nat) : Bool := kdN l i == 45 && (declOf (l.take i) (ndN l i).name).isSome
def unknownAt (l : List Nd) (i : Nat) : Bool := kdN l i == 3 && (declOf l (ndN l i).name).isNone
def meantAt (l : List Nd) (i : Nat) : Nat := if kdN l i == 3 then ((declOf l (ndN l i).name).getD 0).toNat else i
def keyL (nm : ByteArray) : Lit := .string nm.data.toList
theorem keyL_inj {a b : ByteArray} (h : keyL a = keyL b) : a = b := by
  unfold keyL at h
  simp only [Lit.string.injEq] at h
  cases a; cases b
  simp only [ByteArray.mk.injEq]
  exact Array.toList_inj.1 h
/-- a map that tells what is declared -/
structure MapIs (l : List Nd) (D : DataW Unit) : Prop where
  map : Maps.IsMap D
  has : ∀ nm, Maps.has D (keyL nm) = (declOf l nm).isSome
  at_ : ∀ nm, D.atKey (keyL nm) (.lit (.int .i64 0)) = .lit (.int .i64 ((declOf l nm).getD 0))
theorem mapIs_nil : MapIs [] (.map []) := ⟨Maps.isMap_empty, fun nm => rfl, fun nm => rfl⟩
theorem declOf_snoc (l : List Nd) (n : Nd) (nm : ByteArray) : declOf (l ++ [n]) nm = (declOf l nm).or (if isDecl nm n then some (n.kids.getD 0 0) else none) := by
  unfold declOf
  rw [List.find?_append]
  cases h : l.find? (isDecl nm)
  · simp [List.find?_cons]
    split <;> simp_all
  · simp
theorem MapIs.put {l : List Nd} {D : DataW Unit} {n : Nd} (h : MapIs l D) (hk : n.kind = 45) (hn : declOf l n.name = none) : MapIs (l ++ [n]) (D.put (keyL n.name) (.lit (.int .i64 (n.kids.getD 0 0)))) := by
  have hs : ∀ nm, nm ≠ n.name → isDecl nm n = false := fun nm hne => by unfold isDecl; simp [hk, Ne.symm hne]
  have hs2 : isDecl n.name n = true := by unfold isDecl; simp [hk]
  have hne : ∀ nm, nm ≠ n.name → keyL nm ≠ keyL n.name := fun nm h q => h (keyL_inj q)
  refine ⟨h.map.put _ _, fun nm => ?_, fun nm => ?_⟩
  · rw [declOf_snoc]
    by_cases e : nm = n.name
    · subst e
      rw [Maps.has_put_same h.map (by simp [keyL, WideAt.IsKeyLit]), hs2, hn]
      rfl
    · rw [Maps.has_put_other (hne nm e), h.has, hs nm e]
      simp
  · rw [declOf_snoc]
    by_cases e : nm = n.name
    · subst e
      rw [Maps.atKey_put_same h.map (by simp [keyL, WideAt.IsKeyLit]), hs2, hn]
      rfl
    · rw [Maps.atKey_put_other (hne nm e), h.at_, hs nm e]
      simp
theorem MapIs.skip {l : List Nd} {D : DataW Unit} {n : Nd} (h : MapIs l D) (hk : n.kind ≠ 45) : MapIs (l ++ [n]) D := by
  have hs : ∀ nm, isDecl nm n = false := fun nm => by unfold isDecl; simp [hk]
  refine ⟨h.map, fun nm => ?_, fun nm => ?_⟩
  · rw [declOf_snoc, hs, h.has]; simp
  · rw [declOf_snoc, hs, h.at_]; simp
theorem take_nd (l : List Nd) (i : Nat) (h : i < l.length) : l.take (i + 1) = l.take i ++ [ndN l i] := by
  rw [List.take_succ_eq_append_getElem h]
  unfold ndN
  rw [List.getD_eq_getElem?_getD, List.getElem?_eq_getElem h]
  rfl

/-- the kind of the row that a node has -/
def rowKindI (k : Int) : Nat :=
  if k = 1 then 1 else if k = 2 then 2 else if k = 4 then 3 else if k = 5 then 4 else if k = 6 then 5 else if k = 7 then 6 else 0
/-- how many rows the nodes ahead of i have -/
def countI (l : List Nd) : Nat → Nat
  | 0 => 0
  | i + 1 => countI l i + if rowKindI (kdN l i) = 0 then 0 else 1
def ownOf (l : List Nd) (i : Nat) : Int := if rowKindI (kdN l i) = 0 then -1 else (countI l i : Int)
def rowsGo (l : List Nd) (of : Nat → Int) : Nat → List Ty
  | 0 => []
  | i + 1 => rowsGo l of i ++ if rowKindI (kdN l i) = 0 then [] else [⟨rowKindI (kdN l i), (ndN l i).kids.map fun k => of k.toNat, (ndN l i).num == 1⟩]
end Go.Proofs.YtllgaholkminnaaDoor
namespace Go.Proofs.YtllgaholkminnaaDoor
open Go.RowKit
set_option linter.unusedVariables false
set_option linter.unusedSimpArgs false

set_option maxRecDepth 100000 in
set_option maxHeartbeats 1000000 in
/-- **eachItself** -/
theorem eachItself_any (w : World) (n : Nat) (hn : n ≤ 2147483647) :
    Calls Tryd.prog 23 #[.int .i64 n] w fun e w' => e = .returned (.slice (some ⟨w.heap.size, 0, none⟩) n n) ∧ NRow w' w.heap.size (List.range n) ∧ Below w.heap.size w w' := by
  have hmk := make_ints w n hn
  have HZ : Bx _ := ⟨zeros_row w n⟩
  go_enter Tryd.func23, Tryd.ntmps23
  go_wp2
  go_loopw [9] (fun x wr => ∃ k : Nat, k ≤ n ∧ x = .int .i64 k ∧ Bx (FRow wr w.heap.size n (List.range k) ∧ Below w.heap.size w wr)) (fun x _ => n - (intOf x).toNat)
  case atStart => exact ⟨0, Nat.zero_le _, rfl, ⟨HZ.out, below1 w _⟩⟩
  case round =>
    obtain ⟨k, hk, rfl, HS⟩ := hrel
    have g4 : k < n → ∃ x : Int, wr.cell? ⟨w.heap.size, k, none⟩ = some (.int .i64 x) := fun h => HS.out.1.cell k h
    have g5 := HS.out.1.frozen k
    have g6 := HS.out.1.lt
    by_cases hlt : k < n
    · obtain ⟨x0, g4⟩ := g4 hlt
      have HX : Bx (FRow (wr.setCell ⟨w.heap.size, k, none⟩ (.int .i64 (k : Nat))) w.heap.size n (List.range (k + 1)) ∧ Below w.heap.size w (wr.setCell ⟨w.heap.size, k, none⟩ (.int .i64 (k : Nat)))) := ⟨by
        have := HS.out.1.set (by simpa using hlt) k
        rw [List.length_range, ← List.range_succ] at this
        exact this, Below.setCell (p := ⟨w.heap.size, k, none⟩) HS.out.2 (Nat.le_refl _) _⟩
      go_wp2
      go_roundw
      case rel => exact ⟨k + 1, by omega, by go_num, HX⟩
      case measure => simp [intOf]; omega
    · have e : k = n := by omega
      clear g4
      go_wp2
      go_ret
      exact ⟨rfl, by subst e; exact NRow.of_full HS.out.1 (by simp), HS.out.2⟩

set_option maxRecDepth 100000 in
set_option maxHeartbeats 1000000 in
/-- **last** -/
theorem last_any (w : World) (fb N : Nat) (xs : List Nat) (ρ d : Nat → Nat) (i : Nat) (hN : xs.length = N) (hr : NRow w fb xs) (hu : UF xs ρ d) (hi : i < N) (hm : N ≤ 2147483647) :
    Calls Tryd.prog 24 #[.slice (some ⟨fb, 0, none⟩) N N, .int .i64 i] w fun e w' => e = .returned (.int .i64 (ρ i : Nat)) ∧ ∃ xs', xs'.length = N ∧ NRow w' fb xs' ∧ UF xs' ρ d ∧ Only fb w w' := by
  have HI : Bx (NRow w fb xs ∧ UF xs ρ d ∧ xs.length = N) := ⟨hr, hu, hN⟩
  clear hr hu hN
  go_enter Tryd.func24, Tryd.ntmps24
  go_wp2
  go_loopw [1] (fun x wr => ∃ (j : Nat) (ys : List Nat), j < N ∧ x = .int .i64 j ∧ Bx (NRow wr fb ys ∧ UF ys ρ d ∧ ys.length = N ∧ ρ j = ρ i ∧ Only fb w wr)) (fun x _ => d (intOf x).toNat)
  case atStart => exact ⟨i, xs, hi, rfl, ⟨HI.out.1, HI.out.2.1, HI.out.2.2, rfl, Only.refl _ _⟩⟩
  case round =>
    obtain ⟨j, ys, hj, rfl, HS⟩ := hrel
    clear HI
    have hl := HS.out.2.2.1
    have c1 := HS.out.1.cell j (by omega)
    have f1 := HS.out.1.frozen j
    have f2 := HS.out.1.lt
    have hp := HS.out.2.1.lt j (by omega)
    by_cases he : ys.getD j 0 = j
    · have HE : Bx (ρ i = j) := ⟨by rw [← HS.out.2.2.2.1]; exact HS.out.2.1.fx j (by omega) he⟩
      rw [he] at c1
      clear hp he
      go_wp2
      go_ret
      exact ⟨ret_int (by rw [HE.out]), ys, hl, HS.out.1, HS.out.2.1, HS.out.2.2.2.2⟩
    · have c2 := HS.out.1.cell _ hp
      obtain ⟨u1, u2, u3, u4⟩ := HS.out.2.1.halve (by omega) he
      rw [hl] at hp u2
      generalize hq : ys.getD (ys.getD j 0) 0 = q at *
      generalize ys.getD j 0 = p at *
      have HX : Bx (NRow (wr.setCell ⟨fb, j, none⟩ (.int .i64 (q : Nat))) fb (ys.set j q) ∧ UF (ys.set j q) ρ d ∧ (ys.set j q).length = N ∧ ρ q = ρ i ∧ Only fb w (wr.setCell ⟨fb, j, none⟩ (.int .i64 (q : Nat)))) :=
        ⟨HS.out.1.set j q (by omega), u1, by simpa using hl, by rw [u4]; exact HS.out.2.2.2.1, HS.out.2.2.2.2.trans (Only.set _ _ _ _)⟩
      have he2 : ((p : Int) != (j : Int)) = true := by rw [bne_iff_ne]; omega
      clear HS u1 u4 hq he hl
      go_wp2
      go_roundw
      case rel => exact ⟨q, ys.set j q, u2, rfl, HX⟩
      case measure => simp [intOf]; omega
end Go.Proofs.YtllgaholkminnaaDoor
namespace Go.Proofs.YtllgaholkminnaaDoor
/-- each declaration's type is neither a name nor a tuple -/
def LeafD (l : List Nd) : Prop := ∀ i, i < l.length → kdN l i = 45 → ∃ (m : Nat) (r : List Int), (ndN l i).kids = (m : Int) :: r ∧ m < l.length ∧ kdN l m ≠ 3 ∧ kdN l m ≠ 5
end Go.Proofs.YtllgaholkminnaaDoor
