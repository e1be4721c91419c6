import Derived.Test.YtfocggaocadkmaaDoorCTKidP
import Derived.Test.YtfocggaocadkmaaDoorCTBey
import Derived.Test.YtfocggaocadkmaaDoorCTSum
import Derived.Deep.QuietTactic
import Derived.BigQuiet
namespace Go.Proofs.YtfocggaocadkmaaDoor
open Go.RowKit
set_option linter.unusedVariables false
set_option linter.unusedSimpArgs false

theorem infoB : (Tryd.prog.info? 4).map (fun i => (i.zero, i.size, i.bytes)) = some (some (.bool false), 1, 1) := by kernel_rfl
def noes (N : Nat) : Array Value := madeCells #[.bool false] (N * 1)
theorem make_bools (w : World) (N : Nat) (hN : N ≤ 2147483647) : (Instr.makeSlice 46 (.int .i64 N) (.int .i64 N)).run Tryd.prog w = .ok (.slice (some ⟨w.heap.size, 0, none⟩) N N) (w.alloc (.cells (noes N) 4)) := by
  obtain ⟨i0, hi, hz0, hz1, hz2⟩ := info_parts infoB
  have := run_make (P := Tryd.prog) w 46 4 i0 (.bool false) Tryd.underlying46 hi hz0 .i64 .i64 (N : Int) (N : Int) (by omega) (by omega) (by rw [hz2]; omega) (by omega)
  rw [hz1] at this
  simpa [noes, Value.cells] using this

/-- a row that marks the numbers of K -/
structure BRow (W : World) (kb N : Nat) (K : List Int) : Prop where
  ex : ∃ C : Array Value, W.heap[kb]? = some (.cells C 4 (0, 0)) ∧ C.size = N ∧ ∀ j, j < N → C[j]? = some (.bool (decide ((j : Int) ∈ K)))
theorem noes_row (w : World) (N : Nat) : BRow (w.alloc (.cells (noes N) 4)) w.heap.size N [] := by
  refine ⟨noes N, heap_alloc_new w _, by simp [noes, madeCells], (fun j hj => ?_)⟩
  simp [noes, madeCells, hj, Nat.mod_one]
theorem BRow.cell {W : World} {kb N : Nat} {K : List Int} (h : BRow W kb N K) (j : Nat) (hj : j < N) : W.cell? ⟨kb, j, none⟩ = some (.bool (decide ((j : Int) ∈ K))) := by
  obtain ⟨C, h1, h2, h3⟩ := h.ex
  rw [cell_of_row W kb j C 4 (0, 0) h1]
  exact h3 j hj
theorem BRow.frozen {W : World} {kb N : Nat} {K : List Int} (h : BRow W kb N K) (j : Nat) : W.frozen? ⟨kb, j, none⟩ = false := by
  obtain ⟨C, h1, _⟩ := h.ex
  simp [World.frozen?, h1]
theorem BRow.lt {W : World} {kb N : Nat} {K : List Int} (h : BRow W kb N K) : kb < W.heap.size := by
  obtain ⟨C, h1, _⟩ := h.ex
  rcases Nat.lt_or_ge kb W.heap.size with h' | h'
  · exact h'
  · rw [Array.getElem?_eq_none h'] at h1; cases h1
theorem BRow.set {W : World} {kb N : Nat} {K : List Int} (h : BRow W kb N K) (m : Nat) (hm : m < N) : BRow (W.setCell ⟨kb, m, none⟩ (.bool true)) kb N (K ++ [(m : Int)]) := by
  obtain ⟨C, h1, h2, h3⟩ := h.ex
  refine ⟨C.setIfInBounds m (.bool true), heap_setCell_same W kb m C 4 _ h1, by simp [h2], fun j hj => ?_⟩
  rw [Array.getElem?_setIfInBounds]
  by_cases e : m = j
  · subst e
    simp [h2, hm]
  · rw [if_neg e, h3 j hj]
    have : ¬ ((j : Int) = (m : Int)) := by omega
    simp [this]

theorem kidsTo_le (l : List Nd) (n : Nat) : ∀ i, i ≤ n → (kidsTo l i).length ≤ (kidsTo l n).length := by
  induction n with
  | zero => intro i hi; rw [show i = 0 by omega]; exact Nat.le_refl _
  | succ n ih =>
    intro i hi
    by_cases e : i = n + 1
    · rw [e]; exact Nat.le_refl _
    · have := ih i (by omega)
      rw [kidsTo_succ, List.length_append]
      omega

/-- in the midst of the walk -/
structure KidW (w wr : World) (B nb no nc hb kb : Nat) (l : List Nd) (K : List Int) : Prop where
  nodes : Nodes wr B nb no nc l
  hgt : FRow wr hb l.length (heightsL l)
  row : BRow wr kb l.length K
  bel : Below w.heap.size w wr
  le : w.heap.size ≤ kb
  lt : hb < kb
  Ble : B ≤ kb
theorem KidW.set {w wr : World} {B nb no nc hb kb : Nat} {l : List Nd} {K : List Int} (h : KidW w wr B nb no nc hb kb l K) (m : Nat) (hm : m < l.length) :
    KidW w (wr.setCell ⟨kb, m, none⟩ (.bool true)) B nb no nc hb kb l (K ++ [(m : Int)]) := by
  have hbl : Below kb wr (wr.setCell ⟨kb, m, none⟩ (.bool true)) := Below.setCell (p := ⟨kb, m, none⟩) (Below.refl _ _) (Nat.le_refl _) _
  refine ⟨h.nodes.below (hbl.mono h.Ble), ?_, h.row.set m hm, h.bel.trans (hbl.mono h.le), h.le, h.lt, h.Ble⟩
  obtain ⟨C, h1, h2⟩ := h.hgt.ex
  exact ⟨C, by rw [hbl.block hb h.lt]; exact h1, h2⟩

theorem KidW.drewN {w wr : World} {B nb no nc hb kb : Nat} {l : List Nd} {K : List Int} (h : KidW w wr B nb no nc hb kb l K) (n : Nat) : KidW w (wr.drewN n) B nb no nc hb kb l K := by
  have hbl : ∀ x, Below x wr (wr.drewN n) := fun x => below_drewN (Below.refl _ _) n
  refine ⟨h.nodes.below (hbl _), ?_, ?_, h.bel.trans (hbl _), h.le, h.lt, h.Ble⟩
  · obtain ⟨C, h1, h2⟩ := h.hgt.ex
    exact ⟨C, by simpa using h1, h2⟩
  · obtain ⟨C, h1, h2⟩ := h.row.ex
    exact ⟨C, by simpa using h1, h2⟩

set_option maxRecDepth 100000 in
set_option maxHeartbeats 2000000 in
theorem kids_some (w : World) (nb no nc : Nat) (l : List Nd) (hn : Nodes w w.heap.size nb no nc l) (hL : LaidP w) (h0 : 0 < l.length) :
    Calls Tryd.prog 6 #[.slice (some ⟨nb, no, none⟩) l.length nc] w fun e w' => e = .returned (.bool true) ∧ Below w.heap.size w w' := by
  have HB : Bx _ := ⟨beyond_some w _ nb no nc l hn⟩
  have hbl := bulk_len l
  by_cases hB : 2147483647 < bulkL l
  · rw [decide_eq_true hB] at HB
    have hrf : Bx (Below w.heap.size w w.drew) := ⟨(Below.refl _ _).drew⟩
    go_enter Tryd.func6, Tryd.ntmps6
    go_wp2_with (first | (go_at_call 11; refine Calls.mono HB.out ?_; rintro e w' ⟨rfl, rfl⟩))
    go_ret
    exact ⟨rfl, Below.refl _ _⟩
  rw [decide_eq_false hB] at HB
  have hl31 : l.length ≤ 2147483647 := by omega
  have HS : Bx _ := ⟨shown_any w hL⟩
  have HC : Bx (∀ W, Below w.heap.size w W → Calls Tryd.prog 14 #[.slice (some ⟨nb, no, none⟩) l.length nc] W fun e w' => e = .returned (.tuple #[.int .i64 ((checkAll l).1 : Nat), .int .i64 ((checkAll l).2 : Nat)]) ∧ Below W.heap.size W w') := ⟨fun W hb => Check_some W _ nb no nc l (hn.below hb) (hL.below hb).laid hl31 h0⟩
  have HH : Bx (∀ W, Below w.heap.size w W → Calls Tryd.prog 16 #[.slice (some ⟨nb, no, none⟩) l.length nc] W fun e w' => e = .returned (.slice (some ⟨W.heap.size, 0, none⟩) l.length l.length) ∧ FRow w' W.heap.size l.length (heightsL l) ∧ Below W.heap.size W w') := ⟨fun W hb => Height_some W _ nb no nc l (hn.below hb) hl31 h0⟩
  have HN : Bx (Nodes w w.heap.size nb no nc l) := ⟨hn⟩
  have HM : Bx (∀ W, _) := ⟨fun W => make_bools W l.length hl31⟩
  have HK : Bx ((checkAll l).2 = 0 → _) := ⟨fun h => kids_all (l := l) h⟩
  generalize (checkAll l).1 = c1 at *
  generalize (checkAll l).2 = c2 at *
  have hlo := hn.lo
  clear hn hL hbl hB
  by_cases hc : c2 = 0
  · subst hc
    have HKK := HK.out rfl
    clear HK
    go_enter Tryd.func6, Tryd.ntmps6
    go_wp2_with (first
      | (go_at_call 11; refine Calls.mono HB.out ?_; rintro e w' ⟨rfl, rfl⟩)
      | (go_at_call 8; refine Calls.mono HS.out ?_; rintro e w1 ⟨rfl, b1⟩)
      | (go_at_call 14; refine Calls.mono (HC.out _ b1) ?_; rintro e w2 ⟨rfl, b2⟩; have b3 := b1.trans (b2.mono b1.size))
      | (go_at_call 16; refine Calls.mono (HH.out _ b3) ?_; rintro e w3 ⟨rfl, hrow, b4⟩; have hmk := HM.out w3))
    have hs1 := b1.size
    have hs2 := b2.size
    have hs4 := b4.size
    have hr3 := hrow.lt
    have hb5 := below1 w3 (.cells (noes l.length) 4)
    have K0 : Bx (KidW w (w3.alloc (.cells (noes l.length) 4)) w.heap.size nb no nc w2.heap.size w3.heap.size l (kidsTo l 0)) := ⟨⟨HN.out.below (b3.trans ((b4.mono (by omega)).trans (hb5.mono (by omega)))), hrow.below hb5, noes_row w3 l.length, b3.trans ((b4.mono (by omega)).trans (hb5.mono (by omega))), by omega, by omega, by omega⟩⟩
    have HX : Bx _ := ⟨HKK⟩
    generalize w2.heap.size = hb at *
    generalize w3.heap.size = kb at *
    have hmax := kidsTo_le l l.length
    rw [show (kidsTo l l.length).length = l.length - 1 by omega] at hmax
    have HMX : Bx _ := ⟨hmax⟩
    clear HB HS HH HC HM HN hmk b1 b2 b3 b4 hs1 hs2 hs4 hr3 hrow hb5 HKK hmax
    go_loopw [7, 8] (fun m x wr => ∃ i t : Nat, i ≤ l.length ∧ t ≤ l.length ∧ m = .int .i64 t ∧ x = .int .i64 i ∧ Bx (t = (kidsTo l i).length ∧ KidW w wr w.heap.size nb no nc hb kb l (kidsTo l i))) (fun _ x _ => l.length - (intOf x).toNat)
    case atStart => exact ⟨0, 0, Nat.zero_le _, Nat.zero_le _, rfl, rfl, ⟨rfl, K0.out⟩⟩
    case round =>
      obtain ⟨i, t, hi, ht, rfl, rfl, HI⟩ := hrel
      by_cases hlt : i < l.length
      · have hsum : t + (ndN l i).kids.length ≤ l.length - 1 := by
          have := HMX.out (i + 1) (by omega)
          rw [kidsTo_succ, List.length_append, ← HI.out.1] at this
          exact this
        have HI0 : Bx _ := ⟨HI.out.2⟩
        have HKO : Bx _ := ⟨HX.out.1 i hlt⟩
        have HT : Bx _ := ⟨HI.out.1⟩
        clear HI
        go_wp2
        go_loopw [7, 9] (fun m x wr2 => ∃ p : Nat, p ≤ (ndN l i).kids.length ∧ m = .int .i64 ((t + p : Nat) : Int) ∧ x = .int .i64 p ∧ Bx (KidW w wr2 w.heap.size nb no nc hb kb l (kidsTo l i ++ (ndN l i).kids.take p))) (fun _ x _ => (ndN l i).kids.length - (intOf x).toNat)
        case atStart => exact ⟨0, Nat.zero_le _, rfl, rfl, ⟨by simpa using HI0.out⟩⟩
        case round =>
          obtain ⟨p, hp, rfl, rfl, HP⟩ := hrel
          have hW := HP.out
          obtain ⟨ka, kc, hnd⟩ := hW.nodes.at_ i hlt
          have c2 := hnd.c2
          by_cases hplt : p < (ndN l i).kids.length
          · obtain ⟨m, hm, hmi, hnot⟩ := HKO.out p hplt
            have hmem : (m : Int) ∈ (ndN l i).kids := by rw [← hm]; exact List.getElem_mem hplt
            have hh := heights_kid hlt hmem hmi
            have g1 := hW.row.cell m (by omega)
            rw [decide_eq_false hnot] at g1
            have g2 := hW.hgt.firsts m (by rw [heights_len]; omega)
            have g3 := hW.hgt.firsts i (by rw [heights_len]; omega)
            have g4 := hW.row.frozen m
            have g5 := hW.row.lt
            have HNX : Bx (∀ n, KidW w ((wr.drewN n).setCell ⟨kb, m, none⟩ (.bool true)) w.heap.size nb no nc hb kb l (kidsTo l i ++ (ndN l i).kids.take (p + 1))) := ⟨fun n => by
              have := (hW.drewN n).set m (by omega)
              rw [List.append_assoc, ← hm, ← List.take_succ_eq_append_getElem hplt] at this
              exact this⟩
            obtain ⟨a, cap, he, h1, h2, h3⟩ := hnd.kids.ex
            simp only [Value.slice.injEq, true_and] at he
            obtain ⟨rfl, rfl⟩ := he
            obtain ⟨b, o, rfl, hbB, hcell⟩ := h3 (by omega)
            have hc := hcell p hplt
            rw [hm] at hc
            clear hcell h3 hnd hW hnot hmem HT HKO hm
            generalize (ndN l i).kids.length = nk at *
            generalize (heightsL l).getD m 0 = z1 at *
            generalize (heightsL l).getD i 0 = z2 at *
            unfold maxLen at h2
            have d1 : decide ((m : Int) < 0) = false := by first | (simp; done) | (simp; omega)
            have d2 : decide ((i : Int) ≤ (m : Int)) = false := by first | (simp; done) | (simp; omega)
            have d3 : decide ((z2 : Int) ≤ (z1 : Int)) = false := by first | (simp; done) | (simp; omega)
            have q1 : (m : Int) < (l.length : Int) := by omega
            have q2 : (i : Int) < (l.length : Int) := by omega
            go_wp2
            go_quiet (fail)
            go_wp2
            go_roundw
            case rel => exact ⟨p + 1, by omega, by first | rfl | go_num, by go_num, ⟨HNX.out _⟩⟩
            case measure => simp [intOf]; omega
          · have hpe : p = (ndN l i).kids.length := by omega
            have HNX : Bx (t + p = (kidsTo l (i + 1)).length ∧ KidW w wr w.heap.size nb no nc hb kb l (kidsTo l (i + 1))) := ⟨by
              rw [kidsTo_succ, List.length_append, ← HT.out, hpe]
              refine ⟨rfl, ?_⟩
              have := hW
              rw [hpe, List.take_length] at this
              exact this⟩
            clear hW hnd HT HKO
            go_wp2
            go_roundw
            case rel => exact ⟨i + 1, t + p, by omega, by omega, by first | rfl | go_num, by go_num, HNX⟩
            case measure => simp [intOf]; omega
      · have hil : i = l.length := by omega
        subst hil
        have HE := HI.out.1
        have HE2 := HX.out.2
        have hte : (t : Int) = (l.length : Int) - 1 := by omega
        have hbel := HI.out.2.bel
        go_wp2
        go_ret
        exact ⟨ret_bool (by simp; omega), hbel⟩
  · have hc' : ¬ ((c2 : Int) = 0) := by omega
    go_enter Tryd.func6, Tryd.ntmps6
    go_wp2_with (first
      | (go_at_call 11; refine Calls.mono HB.out ?_; rintro e w' ⟨rfl, rfl⟩)
      | (go_at_call 8; refine Calls.mono HS.out ?_; rintro e w1 ⟨rfl, b1⟩)
      | (go_at_call 14; refine Calls.mono (HC.out _ b1) ?_; rintro e w2 ⟨rfl, b2⟩; have b3 := b1.trans (b2.mono b1.size)))
    go_ret
    exact ⟨rfl, b3⟩
end Go.Proofs.YtfocggaocadkmaaDoor
