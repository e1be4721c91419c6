import Derived.Test.YtfocggaocadkmaaDoorTKf
namespace Go.Proofs.YtfocggaocadkmaaDoor
open Go.RowKit
set_option linter.unusedVariables false
set_option linter.unusedSimpArgs false

/-- the world in which the kids are taken -/
def kW (w : World) (ka : Option Addr) (kc nb no nc N : Nat) (k p num : Int) (nk : Nat) (nm : ByteArray) : World :=
  (w.alloc (.cells #[.int .i64 k, .int .i64 p, .slice ka nk kc, .string nm, .int .i64 num] 24)).alloc (.cells #[.slice (some ⟨nb, no, none⟩) N nc, .slice ka nk kc, .bool false] 78)

theorem kst0 (w : World) (ka : Option Addr) (kc nb no nc : Nat) (l : List Nd) (k p num : Int) (ks : List Nat) (nm : ByteArray) (hnb : nb < w.heap.size) (hl : l.length ≤ maxLen)
    (hk : IntsV w w.heap.size (.slice ka ks.length kc) (ks.map fun k : Nat => (k : Int))) (hn : ∀ j, j < l.length → w.cell? ⟨nb, no + j * 5, none⟩ = some (.int .i64 (kdN l j))) (hin : ∀ k ∈ ks, k < l.length) :
    KSt w nb no nc l num (kW w ka kc nb no nc l.length k p num ks.length nm) (ks, false) := by
  have hb : Below w.heap.size w (kW w ka kc nb no nc l.length k p num ks.length nm) := (below1 w _).alloc (by simp) _
  refine ⟨⟨⟨.slice ka ks.length kc, ?_, hk.below hb⟩, fun j hj => by rw [hb.cell (p := ⟨nb, _, none⟩) hnb]; exact hn j hj, hin, hnb, by omega, hl⟩, hb, ?_⟩
  · have := heap_alloc_new (w.alloc (.cells #[.int .i64 k, .int .i64 p, .slice ka ks.length kc, .string nm, .int .i64 num] 24)) (.cells #[.slice (some ⟨nb, no, none⟩) l.length nc, .slice ka ks.length kc, .bool false] 78)
    simpa [kW, curO] using this
  · unfold kW
    rw [(below1 (w.alloc _) _).cell (p := ⟨w.heap.size, 4, none⟩) (by simp)]
    simp

/-- what kidsFit answers -/
def KFit (w : World) (ka : Option Addr) (kc nb no nc : Nat) (l : List Nd) (k p num : Int) (ks : List Nat) (nm : ByteArray) : Prop :=
  Calls Tryd.prog 38 #[.slice (some ⟨nb, no, none⟩) l.length nc, .agg #[.int .i64 k, .int .i64 p, .slice ka ks.length kc, .string nm, .int .i64 num]] w fun e w' => e = .returned (.bool (kidsFitI (kdN l) k num ks)) ∧ Below w.heap.size w w'

theorem fit_of {w : World} {nb no nc : Nat} {l : List Nd} {num : Int} {W : World} {s : List Nat × Bool} {a : Option Addr} {cap n : Nat} {m : Bool} (h : KGot w nb no nc l num W s a cap n m) : fitS s = (!m && ((n : Int) == 0)) := by
  unfold fitS
  rw [h.m_, h.n_]
  congr 1
  rw [Bool.eq_iff_iff]
  simp
theorem kfit_end {w : World} {nb no nc : Nat} {l : List Nd} {num : Int} {W : World} {s : List Nat × Bool} {a : Option Addr} {cap n : Nat} {m X F : Bool} {k : Int} {ks : List Nat} (h : KGot w nb no nc l num W s a cap n m) (HF : Bx (kidsFitI (kdN l) k num ks = F)) (hs : kidsRun (kdN l) k num (ks, false) = s) (hx : X = (!m && ((n : Int) == 0))) :
    Ending.returned (.bool X) = Ending.returned (.bool F) ∧ Below w.heap.size w W := by
  refine ⟨ret_bool ?_, h.st.bel⟩
  rw [← HF.out, kidsFitI, hs, fit_of h, hx]
end Go.Proofs.YtfocggaocadkmaaDoor
