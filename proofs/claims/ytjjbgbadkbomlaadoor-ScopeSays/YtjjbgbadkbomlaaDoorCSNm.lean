import Derived.Test.YtjjbgbadkbomlaaDoorCSOk
import Derived.Test.YtjjbgbadkbomlaaDoorCSWi
import Derived.Test.YtjjbgbadkbomlaaDoorCSEx
namespace Go.Proofs.YtjjbgbadkbomlaaDoor
open Go.RowKit Go.Maps
set_option linter.unusedVariables false
set_option linter.unusedSimpArgs false

theorem check_zero {l : List Nd} : ∀ (m : Nat) (fs : List Nat), (checkGo l m fs).2 = 0 → checkGo l m fs = (0, 0)
  | 0, fs, h => by
    rw [checkGo] at h ⊢
    unfold rootI at h ⊢
    split
    · rename_i hr; rw [if_pos hr] at h; cases h
    · rfl
  | m + 1, fs, h => by
    rw [checkGo] at h ⊢
    split
    · rename_i hz; rw [if_pos hz] at h; exact check_zero m _ h
    · rename_i hz; rw [if_neg hz] at h; exact absurd h hz
/-- where the walk ends -/
def namesS (l : List Nd) : SSt := visF l l.length (l.length - 1) (startS l)
/-- what is told of the names -/
def NamesR (l : List Nd) (w w' : World) (e : Ending) : Prop :=
  if (checkAll l).2 = 0 then
    if (namesS l).flt.2 = 0 then ∃ rb fb fv, e = .returned (.tuple #[.agg #[.slice (some ⟨rb, 0, none⟩) l.length l.length, .slice (some ⟨fb, 0, none⟩) l.length l.length], fltV 0 0]) ∧ NmR w.heap.size l.length w' (namesS l) rb fb fv
    else e = .returned (.tuple #[nilNames, fltV (namesS l).flt.1 (namesS l).flt.2])
  else e = .returned (.tuple #[nilNames, fltV ((checkAll l).1 : Nat) ((checkAll l).2 : Nat)])
theorem Names_any (w : World) (B : Nat) (a : Option Addr) (cap : Nat) (l : List Nd) (hn : IsNodes w B a cap l) (hL : Laid w) (hl31 : l.length ≤ 2147483647) :
    Calls Tryd.prog 9 #[.slice a l.length cap] w fun e w' => NamesR l w w' e ∧ Below w.heap.size w w' := by
  have HC : ∀ W1, Below w.heap.size w W1 → Calls Tryd.prog 17 #[.slice a l.length cap] W1 fun e w' => e = .returned (.tuple #[.int .i64 ((checkAll l).1 : Nat), .int .i64 ((checkAll l).2 : Nat)]) ∧ Below W1.heap.size W1 w' := fun W1 hb => Check_any W1 B a cap l (hn.below (hb.mono hn.hi)) (hL.below hb) hl31
  unfold NamesR
  by_cases hc : (checkAll l).2 = 0
  · obtain ⟨hl, h0, h46, hcnt⟩ := lok_of hc
    have hz : checkAll l = (0, 0) := check_zero _ _ hc
    rw [hz] at HC
    obtain ⟨nb, no, rfl, hN⟩ := hn.at_ h0
    have HV : ∀ B' W0 G0 W2 G, ST B' nb no cap l W0 G0 W2 (startS l) G → Calls Tryd.prog 19 #[.pointer (some ⟨G.wb, 0, none⟩), .int .i64 ((l.length - 1 : Nat) : Int)] W2 fun e W' => e = .returned (.tuple #[]) ∧ ∃ G', ST B' nb no cap l W0 G0 W' (namesS l) G' := fun B' W0 G0 W2 G h => by
      have hv := visit_all (B := B') (nb := nb) (no := no) (nc := cap) hl hl31 l.length (l.length - 1) (by omega) (by omega) W0 G0 W2 (startS l) G h (fun k hk => by simp [startS] at hk) (start_pw l _ (by have := hcnt l.length (l.length - 1) (by omega); omega)) (by show 0 + 2 * l.length < _; omega) (tk_all hl31 _)
      exact hv.mono fun e W' ⟨x, G', y, _⟩ => ⟨x, G', y⟩
    by_cases hf : (namesS l).flt.2 = 0
    · exact (Names_ok w hN hl31 h0 HC (namesS l) hf HV).mono fun e w' h => by rw [if_pos hc, if_pos hf]; exact h
    · exact (Names_fault w hN hl31 h0 HC (namesS l) hf HV).mono fun e w' h => by rw [if_pos hc, if_neg hf]; exact h
  · exact (Names_bad w a l.length cap _ _ (by omega) HC).mono fun e w' h => by rw [if_neg hc]; exact h
end Go.Proofs.YtjjbgbadkbomlaaDoor
