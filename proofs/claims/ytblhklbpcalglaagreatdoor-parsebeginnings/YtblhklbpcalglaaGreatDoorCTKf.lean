import Derived.Test.YtblhklbpcalglaaGreatDoorCPW
import Derived.Test.YtblhklbpcalglaaGreatDoorCQL
import Derived.Deep.Cut
import Derived.Deep.CutBlock
import Derived.Test.YtblhklbpcalglaaGreatDoorCTPlain
namespace Go.Proofs.YtblhklbpcalglaaGreatDoor
open Go.RowKit
set_option linter.unusedVariables false
set_option linter.unusedSimpArgs false
structure KSt (w : World) (nb no nc : Nat) (l : List Nd) (num : Int) (W : World) (s : List Nat × Bool) : Prop where
  cur : CurS W (w.heap.size + 1) w.heap.size nb no nc l s.1 s.2
  bel : Below w.heap.size w W
  box : W.cell? ⟨w.heap.size, 4, none⟩ = some (.int .i64 num)
theorem KSt.step {w : World} {nb no nc : Nat} {l : List Nd} {num : Int} {W W' : World} {s s' : List Nat × Bool} (h : KSt w nb no nc l num W s) (hs : CurS W' (w.heap.size + 1) w.heap.size nb no nc l s'.1 s'.2) (hf : Far (w.heap.size + 1) W W') (hb : Below (w.heap.size + 1) W W') : KSt w nb no nc l num W' s' :=
  ⟨hs, h.bel.trans (hb.mono (by omega)), by rw [hf.cell _ _ (by omega)]; exact h.box⟩
theorem CurS.alloc {w : World} {c B nb no nc : Nat} {l : List Nd} {ks : List Nat} {m : Bool} (h : CurS w c B nb no nc l ks m) (o : Obj) : CurS (w.alloc o) c B nb no nc l ks m := by
  obtain ⟨left, hc, hv⟩ := h.left
  obtain ⟨_, _, hlt, _⟩ := h.facts
  have hb : Below w.heap.size w (w.alloc o) := below1 w o
  have h1 := h.lo
  have h2 := h.hi
  exact ⟨⟨left, by rw [hb.block c hlt]; exact hc, hv.below (hb.mono (by omega))⟩, fun j hj => by rw [hb.cell (p := ⟨nb, _, none⟩) (by simp; omega)]; exact h.nodes j hj, h.inn, h1, h2, h.max⟩
theorem KSt.alloc {w : World} {nb no nc : Nat} {l : List Nd} {num : Int} {W : World} {s : List Nat × Bool} (h : KSt w nb no nc l num W s) (o : Obj) : KSt w nb no nc l num (W.alloc o) s := by
  obtain ⟨_, _, hlt, _⟩ := h.cur.facts
  exact ⟨h.cur.alloc o, h.bel.trans ((below1 W o).mono (by omega)), by rw [(below1 W o).cell (p := ⟨w.heap.size, 4, none⟩) (by simp; omega)]; exact h.box⟩
structure KGot (w : World) (nb no nc : Nat) (l : List Nd) (num : Int) (W : World) (s : List Nat × Bool) (a : Option Addr) (cap n : Nat) (m : Bool) : Prop where
  st : KSt w nb no nc l num W s
  n_ : s.1.length = n
  m_ : s.2 = m
def KPost (w : World) (nb no nc : Nat) (l : List Nd) (num : Int) (s : List Nat × Bool) (W : World) : Prop :=
  ∃ a cap n m, KGot w nb no nc l num W s a cap n m ∧ W.cell? ⟨w.heap.size, 4, none⟩ = some (.int .i64 num) ∧ W.cell? ⟨w.heap.size + 1, 2, none⟩ = some (.bool m) ∧ W.cell? ⟨w.heap.size + 1, 1, none⟩ = some (.slice a n cap) ∧ w.heap.size + 1 < W.heap.size
theorem KSt.post {w : World} {nb no nc : Nat} {l : List Nd} {num : Int} {W : World} {s : List Nat × Bool} (h : KSt w nb no nc l num W s) : KPost w nb no nc l num s W := by
  obtain ⟨h2, _, hlt, a, cap, h1⟩ := h.cur.facts
  exact ⟨a, cap, _, _, ⟨h, rfl, rfl⟩, h.box, h2, h1, hlt⟩
end Go.Proofs.YtblhklbpcalglaaGreatDoor
namespace Go.Proofs.YtblhklbpcalglaaGreatDoor
open Go.RowKit
set_option linter.unusedVariables false
set_option linter.unusedSimpArgs false
def kW (w : World) (ka : Option Addr) (kc nb no nc N : Nat) (k p num : Int) (nk : Nat) (nm : ByteArray) : World :=
  (w.alloc (.cells #[.int .i64 k, .int .i64 p, .slice ka nk kc, .string nm, .int .i64 num] 38)).alloc (.cells #[.slice (some ⟨nb, no, none⟩) N nc, .slice ka nk kc, .bool false] 0)
end Go.Proofs.YtblhklbpcalglaaGreatDoor
namespace Go.Proofs.YtblhklbpcalglaaGreatDoor
open Go.RowKit
set_option linter.unusedVariables false
set_option linter.unusedSimpArgs false
end Go.Proofs.YtblhklbpcalglaaGreatDoor
namespace Go.Proofs.YtblhklbpcalglaaGreatDoor
set_option linter.unusedVariables false
theorem kidsRun_22 {α : Type} (f : α → Int) (num : Int) (s : List α × Bool) : kidsRun f 22 num s = cOne (exprI ∘ f) (cOne (exprI ∘ f) (s)) := by simp [kidsRun]
theorem kidsRun_23 {α : Type} (f : α → Int) (num : Int) (s : List α × Bool) : kidsRun f 23 num s = cMany (exprI ∘ f) (cOne (exprI ∘ f) (s)) := by simp [kidsRun]
theorem kidsRun_24 {α : Type} (f : α → Int) (num : Int) (s : List α × Bool) : kidsRun f 24 num s = cOne (exprI ∘ f) (cOne (exprI ∘ f) (s)) := by simp [kidsRun]
theorem kidsRun_25 {α : Type} (f : α → Int) (num : Int) (s : List α × Bool) : kidsRun f 25 num s = cOne (exprI ∘ f) (s) := by simp [kidsRun]
theorem kidsRun_44 {α : Type} (f : α → Int) (num : Int) (s : List α × Bool) : kidsRun f 44 num s = cOne (justI 41 ∘ f) (cOne (exprI ∘ f) (cOne (exprI ∘ f) (s))) := by simp [kidsRun]
end Go.Proofs.YtblhklbpcalglaaGreatDoor
namespace Go.Proofs.YtblhklbpcalglaaGreatDoor
open Go.RowKit
set_option linter.unusedVariables false
set_option linter.unusedSimpArgs false
end Go.Proofs.YtblhklbpcalglaaGreatDoor
namespace Go.Proofs.YtblhklbpcalglaaGreatDoor
open Go.RowKit
set_option linter.unusedVariables false
set_option linter.unusedSimpArgs false
end Go.Proofs.YtblhklbpcalglaaGreatDoor
namespace Go.Proofs.YtblhklbpcalglaaGreatDoor
open Go.RowKit
set_option linter.unusedVariables false
set_option linter.unusedSimpArgs false
end Go.Proofs.YtblhklbpcalglaaGreatDoor
namespace Go.Proofs.YtblhklbpcalglaaGreatDoor
open Go.RowKit
set_option linter.unusedVariables false
set_option linter.unusedSimpArgs false
end Go.Proofs.YtblhklbpcalglaaGreatDoor
namespace Go.Proofs.YtblhklbpcalglaaGreatDoor
open Go.RowKit
set_option linter.unusedVariables false
set_option linter.unusedSimpArgs false
end Go.Proofs.YtblhklbpcalglaaGreatDoor
namespace Go.Proofs.YtblhklbpcalglaaGreatDoor
open Go.RowKit
set_option linter.unusedVariables false
set_option linter.unusedSimpArgs false
end Go.Proofs.YtblhklbpcalglaaGreatDoor
namespace Go.Proofs.YtblhklbpcalglaaGreatDoor
open Go.RowKit
set_option linter.unusedVariables false
set_option linter.unusedSimpArgs false
end Go.Proofs.YtblhklbpcalglaaGreatDoor
namespace Go.Proofs.YtblhklbpcalglaaGreatDoor
open Go.RowKit
set_option linter.unusedVariables false
set_option linter.unusedSimpArgs false
end Go.Proofs.YtblhklbpcalglaaGreatDoor
namespace Go.Proofs.YtblhklbpcalglaaGreatDoor
open Go.RowKit
set_option linter.unusedVariables false
set_option linter.unusedSimpArgs false
def FirstsAt (w : World) (fb : Nat) (fs : List Nat) : Prop := ∀ j, j < fs.length → w.cell? ⟨fb, j, none⟩ = some (.int .i64 (fs.getD j 0 : Nat))
end Go.Proofs.YtblhklbpcalglaaGreatDoor
namespace Go.Proofs.YtblhklbpcalglaaGreatDoor
open Go.RowKit
set_option linter.unusedVariables false
set_option linter.unusedSimpArgs false
def nameToks (n : Nat) : List Tok → Bool
  | [t] => ((t.kind : Int) == 1) && ((t.len : Int) == (n : Int))
  | _ => false
def nameOk (xs : List UInt8) : Bool := nameToks xs.length (scanAll xs).1
end Go.Proofs.YtblhklbpcalglaaGreatDoor
