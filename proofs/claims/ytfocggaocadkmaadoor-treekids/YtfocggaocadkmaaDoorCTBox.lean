import Derived.Test.YtfocggaocadkmaaDoorCTB
import Derived.Test.YtfocggaocadkmaaDoorCTNum
import Derived.Test.YtfocggaocadkmaaDoorCShelf
import Derived.Test.YtfocggaocadkmaaDoorCSignP
import Derived.WalkSmall
import Derived.Lib.LaidTab
namespace Go.Proofs.YtfocggaocadkmaaDoor
open Go.RowKit Go.Sort
set_option linter.unusedVariables false
set_option linter.unusedSimpArgs false

/-- in the midst of a printing method: the node's copy stands at x -/
structure BxS (w0 : World) (B b : Nat) (lv : Value) (bs : List UInt8) (x : Nat) (k p num : Int) (v nm : Value) (W0 : World) (T : List (List UInt8)) (W : World) : Prop where
  st : PrS w0 B b lv bs T W
  box : W.heap[x]? = some (.cells #[.int .i64 k, .int .i64 p, v, nm, .int .i64 num] 24 (0, 0))
  keep : Keep W0 W b
  xb : x ≠ b
def BxP (w0 : World) (B b : Nat) (lv : Value) (bs : List UInt8) (x : Nat) (k p num : Int) (v nm : Value) (W0 : World) (T : List (List UInt8)) (e : Ending) (W : World) : Prop :=
  e = .returned (.tuple #[]) ∧ BxS w0 B b lv bs x k p num v nm W0 T W ∧ W.cell? ⟨x, 0, none⟩ = some (.int .i64 k) ∧ W.cell? ⟨x, 2, none⟩ = some v ∧ W.cell? ⟨x, 3, none⟩ = some nm ∧ W.cell? ⟨x, 4, none⟩ = some (.int .i64 num) ∧ x < W.heap.size ∧ b < W.heap.size
theorem BxS.post {w0 : World} {B b : Nat} {lv : Value} {bs : List UInt8} {x : Nat} {k p num : Int} {v nm : Value} {W0 : World} {T : List (List UInt8)} {W : World} (h : BxS w0 B b lv bs x k p num v nm W0 T W) : BxP w0 B b lv bs x k p num v nm W0 T (.returned (.tuple #[])) W := by
  obtain ⟨c0, c2, c3, c4, _, hx⟩ := box_cells h.box
  exact ⟨rfl, h, c0, c2, c3, c4, hx, h.st.pb.lt⟩
theorem s_call {w0 : World} {B b : Nat} {lv : Value} {bs : List UInt8} {x : Nat} {k p num : Int} {v nm : Value} {W0 : World} {T T2 : List (List UInt8)} {W : World} {N F : Nat} {args : Array Value} (hc : PrC w0 B b lv N F args T2) (h : BxS w0 B b lv bs x k p num v nm W0 T W) (hb : bs.length + cost (T ++ T2) ≤ N) :
    Calls Tryd.prog F args W (BxP w0 B b lv bs x k p num v nm W0 (T ++ T2)) := by
  refine (pr_step hc h.st hb).mono ?_
  rintro e W' ⟨rfl, q1, q2, q3⟩
  exact BxS.post ⟨q1, q2 _ _ _ _ h.box (by decide) h.xb, h.keep.trans q2, h.xb⟩
theorem s_lay {w0 : World} {B b : Nat} {lv : Value} {bs : List UInt8} {x : Nat} {k p num : Int} {v nm : Value} {W0 : World} {T : List (List UInt8)} {W : World} {N : Nat} {C : Array Value} {n cap tb : Nat} (hN : N ≤ 140737488355328) (hn : C.size = n) (htb : W.heap.size = tb) (h : BxS w0 B b lv bs x k p num v nm W0 T W) (hok : StrsOk C.toList) (h100 : n ≤ 100) (hb : bs.length + cost (T ++ toksOf C) ≤ N) :
    Calls Tryd.prog 48 #[.pointer (some ⟨b, 0, none⟩), .slice (some ⟨tb, 0, none⟩) n cap] (W.alloc (.cells C 9)) (BxP w0 B b lv bs x k p num v nm W0 (T ++ toksOf C)) := by
  subst htb
  refine (lay_step hN hn h.st hok h100 hb).mono ?_
  rintro e W' ⟨rfl, q1, q2, q3⟩
  exact BxS.post ⟨q1, q2 _ _ _ _ h.box (by decide) h.xb, h.keep.trans q2, h.xb⟩
theorem BxS.start {w0 : World} {B b : Nat} {lv : Value} {bs : List UInt8} {W : World} (h : PSt w0 B b lv W bs) (k p num : Int) (v nm : Value) : BxS w0 B b lv bs W.heap.size k p num v nm W [] (W.alloc (.cells #[.int .i64 k, .int .i64 p, v, nm, .int .i64 num] 24)) :=
  ⟨h.alloc _, heap_alloc_new W _, Keep.alloc W _ b, by have := h.pb.lt; omega⟩
theorem s_end {w0 : World} {B b : Nat} {lv : Value} {bs : List UInt8} {x : Nat} {k p num : Int} {v nm : Value} {W0 : World} {T T' : List (List UInt8)} {W : World} (h : BxS w0 B b lv bs x k p num v nm W0 T W) (hT : T = T') : PrPost w0 B b lv bs T' W0 (.returned (.tuple #[])) W := by
  subst hT
  exact ⟨rfl, h.st, h.keep, h.st.pb.lt⟩
/-- the arguments of a printing method -/
def ndA (b : Nat) (ka : Option Addr) (kc nk : Nat) (k p num : Int) (nm : ByteArray) : Array Value := #[.pointer (some ⟨b, 0, none⟩), .agg #[.int .i64 k, .int .i64 p, .slice ka nk kc, .string nm, .int .i64 num]]

/-- the tables stand below a block's number -/
structure LaidB (w : World) (B : Nat) : Prop where
  laid : Laid w
  pow : Lib.TabIs Tryd.prog w "internal/strconv.uint64pow10" .u64 Lib.pow10Tab
  lo : 7 ≤ B

theorem owns_ext {w w' : World} {B : Nat} {e : TypeId} {s : Nat} {v : Value} {n : Nat} {cs : List Value} (h : w.ownsRow B e s v n cs) (hb : Below w.heap.size w w') : w'.ownsRow B e s v n cs := by
  obtain ⟨h1, h2⟩ := h
  refine ⟨h1, ?_⟩
  rcases h2 with h2 | ⟨g, cap, cur, hv, hg, hh, r⟩
  · exact .inl h2
  · exact .inr ⟨g, cap, cur, hv, hg, by rw [hb.block g (heap_lt hh)]; exact hh, r⟩
theorem PSt.ext {w0 W W' : World} {B b : Nat} {lv : Value} {bs : List UInt8} (h : PSt w0 B b lv W bs) (hb : Below W.heap.size W W') : PSt w0 B b lv W' bs := by
  obtain ⟨p, v, hp, hbk, hown, hnil⟩ := h.pb.ex
  exact ⟨⟨⟨p, v, hp, by rw [hb.block b (heap_lt hbk)]; exact hbk, owns_ext hown hb, hnil⟩, h.pb.lo, Nat.le_trans h.pb.hi hb.size⟩, h.bel.trans (hb.mono h.pb.hi)⟩
theorem Keep.ext {w w' : World} (hb : Below w.heap.size w w') (b : Nat) : Keep w w' b := fun k C T fz h1 h2 h3 => by rw [hb.block k (heap_lt h1)]; exact h1
theorem BxS.ext {w0 : World} {B b : Nat} {lv : Value} {bs : List UInt8} {x : Nat} {k p num : Int} {v nm : Value} {W0 : World} {T : List (List UInt8)} {W W' : World} (h : BxS w0 B b lv bs x k p num v nm W0 T W) (hb : Below W.heap.size W W') : BxS w0 B b lv bs x k p num v nm W0 T W' :=
  ⟨PSt.ext h.st hb, by rw [hb.block x (heap_lt h.box)]; exact h.box, h.keep.trans (Keep.ext hb b), h.xb⟩
theorem grow_ext (w : World) (k : Nat) (os : Array Obj) : Below w.heap.size w (grow (w.drewN k) os) := by
  refine ⟨rfl, rfl, rfl, by simp [grow], fun j hj => ?_⟩
  simp [grow, Array.getElem?_append_left hj]
theorem pow_glob : Tryd.prog.globalNamed "internal/strconv.uint64pow10" = some 4 := by kernel_rfl
theorem itoa_ne (n : Int) : Lib.itoa n ≠ [] := by
  unfold Lib.itoa
  split
  · simp
  · intro e
    have := congrArg List.length e
    rw [Lib.decDigits] at this
    split at this <;> simp at this
theorem fb_true : Lib.formatBool true = [116, 114, 117, 101] := by kernel_rfl
theorem fb_false : Lib.formatBool false = [102, 97, 108, 115, 101] := by kernel_rfl
theorem bool_ne (b : Bool) : Lib.formatBool b ≠ [] := by
  cases b
  · rw [fb_false]; simp
  · rw [fb_true]; simp
theorem ite_ne {p : Prop} [Decidable p] {a b : List UInt8} (ha : a ≠ []) (hb : b ≠ []) : (if p then a else b) ≠ [] := by
  by_cases h : p
  · rw [if_pos h]; exact ha
  · rw [if_neg h]; exact hb
theorem op_ne (n : Int) : opT n ≠ [] := by
  unfold opT
  repeat (refine ite_ne (by simp) ?_)
  simp
theorem itoa_step {w0 : World} {B b : Nat} {lv : Value} {bs : List UInt8} {x : Nat} {k p num : Int} {v nm : Value} {W0 : World} {T : List (List UInt8)} {W : World} (HL : LaidB w0 B) (hi : I64 num) (h : BxS w0 B b lv bs x k p num v nm W0 T W) :
    Calls Tryd.prog 52 #[.int .i64 num] W fun e W' => e = .returned (.string ⟨(Lib.itoa num).toArray⟩) ∧ BxS w0 B b lv bs x k p num v nm W0 T W' ∧ W'.cell? ⟨x, 0, none⟩ = some (.int .i64 k) ∧ W'.cell? ⟨x, 2, none⟩ = some v ∧ W'.cell? ⟨x, 3, none⟩ = some nm ∧ W'.cell? ⟨x, 4, none⟩ = some (.int .i64 num) ∧ x < W'.heap.size ∧ b < W'.heap.size := by
  have hpow : Lib.TabIs Tryd.prog W "internal/strconv.uint64pow10" .u64 Lib.pow10Tab := var?_below h.st.bel pow_glob (by have := HL.lo; omega) HL.pow
  refine (Tryd.strconv_Itoa num hi.1 hi.2 W hpow).mono ?_
  rintro e W' ⟨rfl, j, os, rfl⟩
  exact ⟨rfl, (h.ext (grow_ext W j os)).post.2⟩
end Go.Proofs.YtfocggaocadkmaaDoor
