import Derived.Test.YtllgaholkminnaaDoorCKWays
import Derived.Test.YtllgaholkminnaaDoorCKOpenR
namespace Go.Proofs.YtllgaholkminnaaDoor
open Go.RowKit
set_option linter.unusedVariables false
set_option linter.unusedSimpArgs false

theorem sh_c (w : World) (hL : Laid w) : ShC w := fun W hb => shown_any W (hL.below hb)
set_option maxRecDepth 100000 in
theorem ways_none (w : World) (ad : Option Addr) (cap : Nat) (a b : Int) (wv : Value) (hS : ShC w) :
    Calls Tryd.prog 6 #[.slice ad 0 cap, .int .i64 a, .int .i64 b, wv] w fun e w' => e = .returned (.bool true) ∧ Below w.heap.size w w' := by
  have HS0 : Bx _ := ⟨hS w (Below.refl _ _)⟩
  clear hS
  go_enter Tryd.func6, Tryd.ntmps6
  go_wp2_with (first | (go_at_call 10; refine Calls.mono HS0.out ?_; rintro e w1 ⟨rfl, hb1⟩))
  go_ret
  exact ⟨rfl, hb1⟩
theorem ways_walk (w : World) (ad : Option Addr) (cap : Nat) (t : List Ty) (hn : IsTypes w w.heap.size ad cap t) (a : Int) (ha : I64 a) (b : Int) (hb : I64 b) (wa : Option Addr) (wc : Nat) (way : List Int) (hw : IntsV w w.heap.size (.slice wa way.length wc) way) (hwi : ∀ k ∈ way, I64 k) (hL : Laid w) :
    Calls Tryd.prog 6 #[.slice ad t.length cap, .int .i64 a, .int .i64 b, .slice wa way.length wc] w fun e w' => e = .returned (.bool true) ∧ Below w.heap.size w w' := by
  by_cases h0 : 0 < t.length
  · obtain ⟨nb, no, rfl, h⟩ := hn.at_ h0
    exact ways_some w nb no cap t a b wa wc way h hw hwi ha hb (sh_c w hL) h0
  · have hx : t = [] := List.eq_nil_of_length_eq_zero (by omega)
    subst hx
    exact ways_none w ad cap a b _ (sh_c w hL)
end Go.Proofs.YtllgaholkminnaaDoor
