import Derived.Test.YtfocggaocadkmaaDoorTLay
import Derived.Test.YtfocggaocadkmaaDoorTCurA
import Derived.Test.YtfocggaocadkmaaDoorTMem
namespace Go.Proofs.YtfocggaocadkmaaDoor
open Go.RowKit
set_option linter.unusedVariables false
set_option linter.unusedSimpArgs false

def cost (ts : List (List UInt8)) : Nat := (ts.map fun t => t.length + 1).sum
@[simp] theorem cost_nil : cost [] = 0 := rfl
@[simp] theorem cost_cons (t : List UInt8) (r : List (List UInt8)) : cost (t :: r) = t.length + 1 + cost r := by simp [cost]
@[simp] theorem cost_append (a b : List (List UInt8)) : cost (a ++ b) = cost a + cost b := by simp [cost]
theorem layT_le : ∀ (ts : List (List UInt8)) (bs : List UInt8), (layT bs ts).length ≤ bs.length + cost ts
  | [], bs => by simp [layT_nil]
  | t :: r, bs => by
    have h1 : (putT bs t).length ≤ bs.length + t.length + 1 := by unfold putT; split <;> (try simp) <;> omega
    have := layT_le r (putT bs t)
    rw [layT_cons, cost_cons]
    omega

def strT : Value → List UInt8
  | .string s => s.data.toList
  | _ => []
def toksOf (C : Array Value) : List (List UInt8) := C.toList.map strT
def StrsOk : List Value → Prop
  | [] => True
  | .string s :: r => s.data.toList ≠ [] ∧ StrsOk r
  | _ :: _ => False
theorem strs_ok : ∀ (l : List Value), StrsOk l → (l.map strT).map (fun t => Value.string ⟨t.toArray⟩) = l ∧ ∀ t ∈ l.map strT, t ≠ []
  | [], _ => ⟨rfl, fun _ h => by cases h⟩
  | v :: r, h => by
    cases v with
    | string s =>
      obtain ⟨h1, h2⟩ := h
      obtain ⟨q1, q2⟩ := strs_ok r h2
      refine ⟨?_, ?_⟩
      · rw [List.map_cons, List.map_cons, q1]; rfl
      · intro t ht
        rw [List.map_cons] at ht
        rcases List.mem_cons.1 ht with rfl | ht
        · exact h1
        · exact q2 t ht
    | _ => exact absurd h (by simp [StrsOk])
theorem strs_eq {C : Array Value} (h : StrsOk C.toList) : (.cells C 9 (0, 0) : Obj) = strsO (toksOf C) := by
  unfold strsO toksOf
  rw [(strs_ok C.toList h).1]

/-- the printer's state -/
structure PSt (w0 : World) (B b : Nat) (lv : Value) (W : World) (bs : List UInt8) : Prop where
  pb : PB W B b lv bs
  bel : Below B w0 W
theorem PB.alloc {w : World} {B b : Nat} {lv : Value} {bs : List UInt8} (h : PB w B b lv bs) (o : Obj) : PB (w.alloc o) B b lv bs := by
  obtain ⟨p, v, hp, hbk, hown, hnil⟩ := h.ex
  exact ⟨⟨p, v, hp, by rw [(below1 w o).block b (heap_lt hbk)]; exact hbk, hown.alloc o, hnil⟩, h.lo, by have := h.hi; simp; omega⟩
theorem PSt.alloc {w0 W : World} {B b : Nat} {lv : Value} {bs : List UInt8} (h : PSt w0 B b lv W bs) (o : Obj) : PSt w0 B b lv (W.alloc o) bs := ⟨h.pb.alloc o, h.bel.alloc h.pb.hi o⟩
theorem PB.lt {w : World} {B b : Nat} {lv : Value} {bs : List UInt8} (h : PB w B b lv bs) : b < w.heap.size := by
  obtain ⟨p, v, hp, hbk, _⟩ := h.ex
  exact heap_lt hbk
/-- what a printing call leaves -/
def PrPost (w0 : World) (B b : Nat) (lv : Value) (bs : List UInt8) (T : List (List UInt8)) (W : World) (e : Ending) (W' : World) : Prop :=
  e = .returned (.tuple #[]) ∧ PSt w0 B b lv W' (layT bs T) ∧ Keep W W' b ∧ b < W'.heap.size
/-- a printing call lays the tokens T down -/
def PrC (w0 : World) (B b : Nat) (lv : Value) (N F : Nat) (args : Array Value) (T : List (List UInt8)) : Prop :=
  ∀ W bs, PSt w0 B b lv W bs → bs.length + cost T ≤ N → Calls Tryd.prog F args W (PrPost w0 B b lv bs T W)

/-- so much is laid down already -/
def PrS (w0 : World) (B b : Nat) (lv : Value) (bs : List UInt8) (T : List (List UInt8)) (W : World) : Prop := PSt w0 B b lv W (layT bs T)
theorem pr_step {w0 : World} {B b : Nat} {lv : Value} {N F : Nat} {args : Array Value} {T T2 : List (List UInt8)} {bs : List UInt8} {W : World} (h : PrC w0 B b lv N F args T2) (hs : PrS w0 B b lv bs T W) (hb : bs.length + cost (T ++ T2) ≤ N) :
    Calls Tryd.prog F args W fun e W' => e = .returned (.tuple #[]) ∧ PrS w0 B b lv bs (T ++ T2) W' ∧ Keep W W' b ∧ b < W'.heap.size := by
  have := layT_le T bs
  refine (h W _ hs (by rw [cost_append] at hb; omega)).mono ?_
  rintro e W' ⟨rfl, h1, h2, h3⟩
  exact ⟨rfl, by unfold PrS; rw [layT_append]; exact h1, h2, h3⟩
theorem lay_step {w0 : World} {B b : Nat} {lv : Value} {N : Nat} (hN : N ≤ 140737488355328) {T : List (List UInt8)} {bs : List UInt8} {W : World} {C : Array Value} {n cap : Nat} (hn : C.size = n) (hs : PrS w0 B b lv bs T W) (hok : StrsOk C.toList) (h100 : n ≤ 100) (hb : bs.length + cost (T ++ toksOf C) ≤ N) :
    Calls Tryd.prog 48 #[.pointer (some ⟨b, 0, none⟩), .slice (some ⟨W.heap.size, 0, none⟩) n cap] (W.alloc (.cells C 9)) fun e W' => e = .returned (.tuple #[]) ∧ PrS w0 B b lv bs (T ++ toksOf C) W' ∧ Keep W W' b ∧ b < W'.heap.size := by
  have h1 := layT_le T bs
  have h2 := layT_le (toksOf C) (layT bs T)
  rw [cost_append] at hb
  have hlen : (toksOf C).length = n := by rw [← hn]; simp [toksOf]
  have hlt := hs.pb.lt
  have := lay_any B b W.heap.size cap lv (toksOf C) (layT bs T) (W.alloc (.cells C 9)) (hs.pb.alloc _) (by rw [← strs_eq hok]; exact heap_alloc_new W _) (strs_ok C.toList hok).2 (by omega) (by omega) (by omega)
  rw [hlen] at this
  refine this.mono ?_
  rintro e W' ⟨rfl, q1, q2, q3⟩
  refine ⟨rfl, ⟨by rw [layT_append]; exact q1, (hs.bel.alloc hs.pb.hi _).trans q2⟩, (Keep.alloc W _ b).trans q3, q1.lt⟩

/-- the tokens of a row, and of a list, of nodes -/
def rowT (G : Nat → List (List UInt8)) (ks : List Nat) : List (List UInt8) := ks.flatMap G
def innerT (G : Nat → List (List UInt8)) : List Nat → List (List UInt8)
  | [] => []
  | k :: r => G k ++ r.flatMap fun j => [44] :: G j
theorem rowT_snoc (G : Nat → List (List UInt8)) (ks : List Nat) (k : Nat) : rowT G (ks ++ [k]) = rowT G ks ++ G k := by simp [rowT]
theorem innerT_snoc (G : Nat → List (List UInt8)) (k : Nat) : ∀ ks : List Nat, ks ≠ [] → innerT G (ks ++ [k]) = innerT G ks ++ ([[44]] ++ G k)
  | [], h => absurd rfl h
  | a :: r, _ => by simp [innerT]
theorem rowT_cost (G : Nat → List (List UInt8)) (ks : List Nat) (p : Nat) : cost (rowT G (ks.take p)) ≤ cost (rowT G ks) := by
  have h : rowT G ks = rowT G (ks.take p) ++ rowT G (ks.drop p) := by
    unfold rowT
    rw [← List.flatMap_append, List.take_append_drop]
  rw [h, cost_append]
  omega
theorem innerT_cost (G : Nat → List (List UInt8)) (ks : List Nat) (p : Nat) : cost (innerT G (ks.take p)) ≤ cost (innerT G ks) := by
  match ks, p with
  | [], p => simp [innerT]
  | k :: r, 0 => simp [innerT]
  | k :: r, p + 1 =>
    have h : r.flatMap (fun j => [44] :: G j) = (r.take p).flatMap (fun j => [44] :: G j) ++ (r.drop p).flatMap (fun j => [44] :: G j) := by
      rw [← List.flatMap_append, List.take_append_drop]
    simp only [innerT, List.take_succ_cons]
    rw [h]
    simp only [cost_append]
    omega

theorem box_cells {w : World} {x : Nat} {k p num : Int} {v nm : Value} (h : w.heap[x]? = some (.cells #[.int .i64 k, .int .i64 p, v, nm, .int .i64 num] 24 (0, 0))) :
    w.cell? ⟨x, 0, none⟩ = some (.int .i64 k) ∧ w.cell? ⟨x, 2, none⟩ = some v ∧ w.cell? ⟨x, 3, none⟩ = some nm ∧ w.cell? ⟨x, 4, none⟩ = some (.int .i64 num) ∧ w.cell? ⟨x, 1, none⟩ = some (.int .i64 p) ∧ x < w.heap.size := by
  have h0 : w.cell? ⟨x, 0, none⟩ = some (.int .i64 k) := by simp [World.cell?, h]
  exact ⟨h0, by simp [World.cell?, h], by simp [World.cell?, h], by simp [World.cell?, h], by simp [World.cell?, h], World.block_lt_of_cell? w _ h0⟩
/-- a node's call -/
def NdC (w0 : World) (B b : Nat) (lv : Value) (N : Nat) (G : Nat → List (List UInt8)) (k : Nat) : Prop := PrC w0 B b lv N 22 #[.pointer (some ⟨b, 0, none⟩), .int .i64 k] (G k)

end Go.Proofs.YtfocggaocadkmaaDoor
