import Derived.Test.YtijdcplffmdijaaDoorCDFe
import Derived.Test.YtijdcplffmdijaaDoorCDQ
namespace Go.Proofs.YtijdcplffmdijaaDoor
open Go.RowKit
set_option linter.unusedVariables false
set_option linter.unusedSimpArgs false

/-- no instruction -/
theorem addIns_none (w : World) (hL : Shp w) (up : Value) (word : List UInt8) (a : Option Addr) (cap : Nat) (ks : List Int) (hi : IntsV w w.heap.size a cap ks) (hl : ks.length ≤ 1099511627776) (hins : insOf (opI word) ks = none) :
    Calls Tryd.prog 66 #[up, strV word, .slice a ks.length cap] w fun e w' => e = .returned (.bool false) ∧ Below w.heap.size w w' := by
  have HO := Op_any ⟨word.toArray⟩ w hL
  have e1 : (⟨word.toArray⟩ : ByteArray).toList = word := by rw [Lib.toList_data]
  rw [e1] at HO
  have HI := instructionOf_any w hL (opI word) (opI_lt word) a cap ks hi (by omega)
  unfold ioPost at HI
  rw [hins] at HI
  generalize opI word = op at *
  generalize ks.length = kn at *
  clear hL hi hins e1
  go_enter Tryd.func66, Tryd.ntmps66
  go_wp2_with (first
    | (go_at_call 11; refine HO.mono ?_; rintro e w1 ⟨rfl, rfl⟩)
    | (go_at_call 76; refine HI.mono ?_; rintro e w2 ⟨rfl, hb⟩))
  go_ret
  exact ⟨rfl, hb.alloc hb.size _⟩
/-- no prog -/
theorem addIns_zero (w : World) (hL : Shp w) (B ub : Nat) (u : CUn) (hu : UW w B ub u) (h0 : u.progs = []) (word : List UInt8) (a : Option Addr) (cap : Nat) (ks : List Int) (hi : IntsV w w.heap.size a cap ks) (hl : ks.length ≤ 1099511627776) (i : CIn) (hins : insOf (opI word) ks = some i) :
    Calls Tryd.prog 66 #[.pointer (some ⟨ub, 0, none⟩), strV word, .slice a ks.length cap] w fun e w' => e = .returned (.bool false) ∧ Below w.heap.size w w' := by
  have HO := Op_any ⟨word.toArray⟩ w hL
  have e1 : (⟨word.toArray⟩ : ByteArray).toList = word := by rw [Lib.toList_data]
  rw [e1] at HO
  have HI := instructionOf_any w hL (opI word) (opI_lt word) a cap ks hi (by omega)
  unfold ioPost at HI
  rw [hins] at HI
  obtain ⟨pv, tv, pcs, cut, u1, u2, u3, u4, u5, u6⟩ := hu.ex
  have hpv : ∃ pa pc, pv = .slice pa 0 pc := by
    rw [h0] at u3
    rcases u3.2 with ⟨h, _⟩ | ⟨g, c, cur, h, _⟩
    · exact ⟨_, _, h⟩
    · exact ⟨_, _, h⟩
  obtain ⟨pa, pc, hpv⟩ := hpv
  subst hpv
  have hub : ub < w.heap.size := (Array.getElem?_eq_some_iff.1 u1).1
  have HU : Bx _ := ⟨u1⟩
  generalize opI word = op at *
  generalize ks.length = kn at *
  clear hL hi hins e1 hu u1 u2 u3 u4 u5 u6 h0
  go_enter Tryd.func66, Tryd.ntmps66
  go_wp2_with (first
    | (go_at_call 11; refine HO.mono ?_; rintro e w1 ⟨rfl, rfl⟩)
    | (go_at_call 76; refine HI.mono ?_; rintro e w2 ⟨ka, kc, rfl, HX⟩
       have hub2 : ub < w2.heap.size := Nat.lt_of_lt_of_le hub HX.out.2.size
       have hcu : (w2.alloc (.cells #[.int .i64 i.op, .int .i64 i.a, .int .i64 i.b, .slice ka i.list.length kc] 28)).cell? ⟨ub, 0, none⟩ = some (.slice pa 0 pc) := cell_blk (below_heap (below1 w2 _) (below_heap HX.out.2 HU.out)) rfl))
  go_ret
  exact ⟨rfl, HX.out.2.alloc HX.out.2.size _⟩
/-- no type -/
theorem addType_no (w : World) (B ub : Nat) (u : CUn) (hu : UW w B ub u) (a : Option Addr) (cap : Nat) (ks : List Int) (hi : IntsV w w.heap.size a cap ks) (h : 0 < u.progs.length ∨ ks.length < 2 ∨ isBitI (ks.getD 1 0) = false) :
    Calls Tryd.prog 64 #[.pointer (some ⟨ub, 0, none⟩), .slice a ks.length cap] w fun e w' => e = .returned (.bool false) ∧ w = w' := by
  obtain ⟨pv, tv, pcs, cut, u1, u2, u3, u4, u5, u6⟩ := hu.ex
  have hpv : ∃ pa pc, pv = .slice pa u.progs.length pc := by
    rcases u3.2 with ⟨h, h0⟩ | ⟨g, c, cur, h, _⟩
    · rw [h0]; exact ⟨_, _, h⟩
    · exact ⟨_, _, h⟩
  obtain ⟨pa, pc, hpv⟩ := hpv
  subst hpv
  have hub : ub < w.heap.size := (Array.getElem?_eq_some_iff.1 u1).1
  have g0 : w.cell? ⟨ub, 0, none⟩ = some (.slice pa u.progs.length pc) := cell_blk u1 rfl
  generalize u.progs.length = n at *
  clear hu u1 u2 u3 u4 u5 u6
  by_cases h1 : 0 < n
  · have q1 : (0 : Int) < (n : Int) := by omega
    clear h hi
    generalize ks.length = kn at *
    go_enter Tryd.func64, Tryd.ntmps64
    go_wp2
    go_ret
    exact ⟨rfl, rfl⟩
  · have q1 : ¬ (0 : Int) < (n : Int) := by omega
    by_cases h2 : ks.length < 2
    · have q2 : (ks.length : Int) < 2 := by omega
      clear h hi h1
      generalize ks.length = kn at *
      go_enter Tryd.func64, Tryd.ntmps64
      go_wp2
      go_ret
      exact ⟨rfl, rfl⟩
    · have h3 : isBitI (ks.getD 1 0) = false := by
        rcases h with h | h | h
        · exact absurd h h1
        · exact absurd h h2
        · exact h
      have q2 : ¬ (ks.length : Int) < 2 := by omega
      obtain ⟨b, o, rfl, hbl, hc⟩ := hi.at_ (by omega)
      have hcap := hi.cap
      have c1 := hc 1 (by omega)
      have e1 : ks.getD 1 0 = ks[1]'(by omega) := by rw [List.getD_eq_getElem?_getD, List.getElem?_eq_getElem (by omega)]; rfl
      rw [e1] at h3
      generalize ks[1]'(by omega) = d at *
      have HBIT : Bx _ := ⟨isBit_any d w⟩
      rw [h3] at HBIT
      have v1 : (1 : Int) < (ks.length : Int) := by omega
      have v4 : 1 < ks.length := by omega
      clear h hi h1 h2 h3 hc e1
      generalize ks.length = kn at *
      go_enter Tryd.func64, Tryd.ntmps64
      go_wp2_with (go_at_call 74; refine HBIT.out.mono ?_; rintro e w' ⟨rfl, rfl⟩)
      go_ret
      exact ⟨rfl, rfl⟩
/-! how much there is -/
def szU (u : CUn) : Nat := u.types.length + sumF (fun p : CPg => 1 + p.code.length) u.progs
theorem sumF_app {α : Type} (f : α → Nat) : ∀ l r : List α, sumF f (l ++ r) = sumF f l + sumF f r
  | [], r => by simp [sumF]
  | x :: l, r => by rw [List.cons_append, sumF, sumF, sumF_app f l r]; omega
theorem sumF_len {α : Type} (f : α → Nat) (h : ∀ x, 1 ≤ f x) : ∀ l : List α, l.length ≤ sumF f l
  | [] => by simp
  | x :: l => by
    have := sumF_len f h l
    have := h x
    rw [sumF, List.length_cons]
    omega
theorem szU_p (qs : List CPg) (p : CPg) (ts : List CTy) : szU ⟨qs ++ [p], ts⟩ = ts.length + sumF (fun p : CPg => 1 + p.code.length) qs + (1 + p.code.length) := by
  unfold szU
  simp only [sumF_app, sumF]
  omega
theorem pieces_len (c : UInt8) : ∀ l : List UInt8, (pieces c l).2.length ≤ l.length
  | [] => by simp [pieces]
  | x :: r => by
    have := pieces_len c r
    rw [pieces]
    split
    · simp; omega
    · simp; omega
theorem last_of {ps : List CPg} (h : ps ≠ []) : ∃ qs p, ps = qs ++ [p] := ⟨ps.dropLast, ps.getLast h, (List.dropLast_concat_getLast h).symm⟩
theorem addL_sz {u v : CUn} {line : List UInt8} (h : addL u line = some v) : szU v = szU u + 1 := by
  unfold addL at h
  split at h
  · cases h
  · rename_i l hl
    simp only [] at h
    split at h
    · split at h
      · cases h
      · injection h with h
        subst h
        unfold szU
        simp only [List.length_append, List.length_cons, List.length_nil]
        omega
    · split at h
      · split at h
        · cases h
        · injection h with h
          subst h
          unfold szU
          simp only [sumF_app, sumF, List.length_nil]
          omega
      · split at h
        · cases h
        · rename_i i hi
          split at h
          · cases h
          · rename_i hne
            injection h with h
            subst h
            obtain ⟨ps, ts⟩ := u
            obtain ⟨qs, p, rfl⟩ := last_of (ps := ps) (by rintro rfl; exact hne rfl)
            rw [addIns_last, szU_p, szU_p]
            simp only [List.length_append, List.length_cons, List.length_nil]
            omega
end Go.Proofs.YtijdcplffmdijaaDoor
