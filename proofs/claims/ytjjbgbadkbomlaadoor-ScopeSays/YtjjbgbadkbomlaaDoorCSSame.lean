import Derived.Test.YtjjbgbadkbomlaaDoorCSLn
import Derived.Deep.RegionHeld
import Derived.Deep.QuietTactic
import Derived.BigQuiet
import Derived.Test.YtjjbgbadkbomlaaDoorCTOrd
namespace Go.Proofs.YtjjbgbadkbomlaaDoor
open Go.RowKit
set_option linter.unusedVariables false
set_option linter.unusedSimpArgs false

theorem ints_lenS {w : World} {B : Nat} {v : Value} {xs : List Int} (h : IntsV w B v xs) : xs.length ≤ maxLen := by
  obtain ⟨_, _, _, _, h2, _⟩ := h.ex
  exact h2
theorem ints_cellsS {w : World} {B : Nat} {a : Option Addr} {n c : Nat} {xs : List Int} (h : IntsV w B (.slice a n c) xs) (h0 : 0 < xs.length) : ∃ b o, a = some ⟨b, o, none⟩ ∧ b < B ∧ n ≤ c ∧ ∀ i (hi : i < xs.length), w.cell? ⟨b, o + i, none⟩ = some (.int .i64 xs[i]) := by
  obtain ⟨a', c', e, h1, h2, h3⟩ := h.ex
  simp only [Value.slice.injEq] at e
  obtain ⟨rfl, rfl, rfl⟩ := e
  obtain ⟨b, o, e, hb, hc⟩ := h3 h0
  exact ⟨b, o, e, hb, h1, hc⟩
theorem take_eqS {α : Type} {xs ys : List α} {p : Nat} (h : xs.take p = ys.take p) (h1 : p < xs.length) (h2 : p < ys.length) (he : xs[p] = ys[p]) : xs.take (p + 1) = ys.take (p + 1) := by
  rw [List.take_succ_eq_append_getElem h1, List.take_succ_eq_append_getElem h2, h, he]
set_option maxRecDepth 100000 in
set_option maxHeartbeats 2000000 in
theorem sameInts_any (w : World) (B : Nat) (a1 a2 : Option Addr) (c1 c2 : Nat) (xs ys : List Int) (h1 : IntsV w B (.slice a1 xs.length c1) xs) (h2 : IntsV w B (.slice a2 ys.length c2) ys) :
    Calls Tryd.prog 20 #[.slice a1 xs.length c1, .slice a2 ys.length c2] w fun e w' => e = .returned (.bool (decide (xs = ys))) ∧ ∃ k, w' = w.drewN k := by
  have hl1 := ints_lenS h1
  have hl2 := ints_lenS h2
  unfold maxLen at hl1 hl2
  by_cases hlen : xs.length = ys.length
  · have HX : Bx _ := ⟨h1⟩
    have HY : Bx _ := ⟨h2⟩
    clear h1 h2
    generalize hn : xs.length = n at *
    have HN : Bx (xs.length = n ∧ ys.length = n) := ⟨hn, hlen.symm⟩
    rw [← hlen] at HY
    rw [← hlen] at hl2
    rw [← hlen]
    clear hn hlen
    go_enter Tryd.func20, Tryd.ntmps20
    go_wp2
    go_loopw [5] (fun x wr => ∃ p k : Nat, p ≤ n ∧ x = .int .i64 p ∧ wr = w.drewN k ∧ Bx (xs.take p = ys.take p)) (fun x _ => n - (intOf x).toNat)
    case atStart => exact ⟨0, 0, Nat.zero_le _, rfl, rfl, ⟨rfl⟩⟩
    case round =>
      obtain ⟨p, k, hp, rfl, rfl, HR⟩ := hrel
      by_cases hlt : p < n
      · have hp1 : p < xs.length := by rw [HN.out.1]; exact hlt
        have hp2 : p < ys.length := by rw [HN.out.2]; exact hlt
        obtain ⟨b1, o1, rfl, hb1, hc1, hcell1⟩ := ints_cellsS HX.out (by omega)
        obtain ⟨b2, o2, rfl, hb2, hc2, hcell2⟩ := ints_cellsS HY.out (by omega)
        have k1 := hcell1 p hp1
        have k2 := hcell2 p hp2
        by_cases he : xs[p] = ys[p]
        · have HT : Bx _ := ⟨take_eqS HR.out hp1 hp2 he⟩
          rw [← he] at k2
          generalize xs[p] = z at *
          clear hcell1 hcell2 HR HX HY
          go_wp2
          go_quiet (fail)
          go_wp2
          go_roundw
          case rel => exact ⟨p + 1, k + nq, by omega, by go_num, by first | rfl | rw [World.drewN_drewN], HT⟩
          case measure => simp [intOf]; omega
        · have hf : Bx (decide (xs = ys) = false) := ⟨decide_eq_false (fun e => he (by subst e; rfl))⟩
          have hz : (xs[p] != ys[p]) = true := by simpa using he
          generalize xs[p] = z at *
          generalize ys[p] = z2 at *
          clear hcell1 hcell2 HR HX HY
          go_wp2
          go_quiet (fail)
          go_wp2
          go_ret
          exact ⟨ret_bool hf.out.symm, k + nq, by first | rfl | rw [World.drewN_drewN]⟩
      · have hf : Bx (decide (xs = ys) = true) := ⟨decide_eq_true (by
          have := HR.out
          rw [List.take_of_length_le (by rw [HN.out.1]; omega), List.take_of_length_le (by rw [HN.out.2]; omega)] at this
          exact this)⟩
        clear HR HX HY HN
        go_wp2
        go_ret
        exact ⟨ret_bool hf.out.symm, k, rfl⟩
  · have hne : decide (xs = ys) = false := decide_eq_false (fun e => hlen (by rw [e]))
    rw [hne]
    have hne2 : ((xs.length : Int) != (ys.length : Int)) = true := by simp; omega
    clear h1 h2 hlen hne
    generalize xs.length = n1 at *
    generalize ys.length = n2 at *
    go_enter Tryd.func20, Tryd.ntmps20
    go_wp2
    go_ret
    exact ⟨rfl, 0, rfl⟩
end Go.Proofs.YtjjbgbadkbomlaaDoor
namespace Go.Proofs.YtjjbgbadkbomlaaDoor
open Go.RowKit
set_option linter.unusedVariables false
set_option linter.unusedSimpArgs false

/-- rows of numbers in a row of their own -/
structure Rws (w : World) (B b N : Nat) (xs : Nat → List Int) : Prop where
  at_ : ∀ i, i < N → ∃ a c, w.cell? ⟨b, i, none⟩ = some (.slice a (xs i).length c) ∧ IntsV w B (.slice a (xs i).length c) (xs i)
theorem intsV_drewN {w : World} {B : Nat} {v : Value} {xs : List Int} (h : IntsV w B v xs) (k : Nat) : IntsV (w.drewN k) B v xs := by
  obtain ⟨a, c, e, h1, h2, h3⟩ := h.ex
  exact ⟨a, c, e, h1, h2, h3⟩
theorem Rws.drewN {w : World} {B b N : Nat} {xs : Nat → List Int} (h : Rws w B b N xs) (k : Nat) : Rws (w.drewN k) B b N xs := ⟨fun i hi => by
  obtain ⟨a, c, h1, h2⟩ := h.at_ i hi
  exact ⟨a, c, h1, intsV_drewN h2 k⟩⟩
theorem Rws.below {w w' : World} {B b N : Nat} {xs : Nat → List Int} (h : Rws w B b N xs) (hb : Below B w w') (hlt : b < B) : Rws w' B b N xs := ⟨fun i hi => by
  obtain ⟨a, c, h1, h2⟩ := h.at_ i hi
  exact ⟨a, c, by rw [hb.cell (p := ⟨b, i, none⟩) hlt]; exact h1, h2.below hb⟩⟩
set_option maxRecDepth 100000 in
set_option maxHeartbeats 2000000 in
theorem sameLists_yes (w : World) (B b1 b2 N c1 c2 : Nat) (xs : Nat → List Int) (h1 : Rws w B b1 N xs) (h2 : Rws w B b2 N xs) (hN : N ≤ 2147483647) (hc1 : N ≤ c1) (hc2 : N ≤ c2) :
    Calls Tryd.prog 21 #[.slice (some ⟨b1, 0, none⟩) N c1, .slice (some ⟨b2, 0, none⟩) N c2] w fun e w' => e = .returned (.bool true) ∧ ∃ k, w' = w.drewN k := by
  have HX := Bx.mk h1
  have HY := Bx.mk h2
  clear h1 h2
  go_enter Tryd.func21, Tryd.ntmps21
  go_wp2
  go_loopw [5] (fun x wr => ∃ p : Nat, p ≤ N ∧ x = .int .i64 p ∧ Bx (∃ k, wr = w.drewN k)) (fun x _ => N - (intOf x).toNat)
  case atStart => exact ⟨0, Nat.zero_le _, rfl, ⟨0, rfl⟩⟩
  case round =>
    obtain ⟨p, hp, rfl, HW⟩ := hrel
    by_cases hlt : p < N
    · have HX' : Rws wr B b1 N xs := by obtain ⟨k, e⟩ := HW.out; rw [e]; exact HX.out.drewN k
      have HY' : Rws wr B b2 N xs := by obtain ⟨k, e⟩ := HW.out; rw [e]; exact HY.out.drewN k
      obtain ⟨a1, d1, k1, i1⟩ := HX'.at_ p hlt
      obtain ⟨a2, d2, k2, i2⟩ := HY'.at_ p hlt
      have HC : Bx (∀ q, Calls Tryd.prog 20 #[.slice a1 (xs p).length d1, .slice a2 (xs p).length d2] (wr.drewN q) fun e w' => e = .returned (.bool true) ∧ ∃ k', w' = (wr.drewN q).drewN k') := ⟨fun q => by
        have := sameInts_any (wr.drewN q) B a1 a2 d1 d2 (xs p) (xs p) (intsV_drewN i1 q) (intsV_drewN i2 q)
        simpa using this⟩
      have HD : Bx (∀ q, ∃ k, wr.drewN q = w.drewN k) := ⟨fun q => by obtain ⟨k, e⟩ := HW.out; exact ⟨k + q, by rw [e, World.drewN_drewN]⟩⟩
      clear i1 i2 HX' HY' HW
      generalize (xs p).length = lx at *
      go_wp2
      go_quiet (first | (go_at_call 20; exact Calls.quiet_of (HC.out _)))
      go_wp2
      go_roundw
      case rel => exact ⟨p + 1, by omega, by go_num, ⟨HD.out _⟩⟩
      case measure => simp [intOf]; omega
    · go_wp2
      go_ret
      obtain ⟨k, e⟩ := HW.out
      exact ⟨rfl, k, e⟩
theorem drewN_bel {w w1 : World} {s : Nat} (h : Below s w w1) (k : Nat) : Below s w (w1.drewN k) := below_drewN h k
set_option maxRecDepth 100000 in
set_option maxHeartbeats 2000000 in
theorem sameNames_yes (w : World) (B r1 f1 r2 f2 N : Nat) (ref : List Int) (xs : Nat → List Int) (hl : ref.length = N) (h1 : IntsV w B (.slice (some ⟨r1, 0, none⟩) N N) ref) (h2 : IntsV w B (.slice (some ⟨r2, 0, none⟩) N N) ref) (h3 : Rws w B f1 N xs) (h4 : Rws w B f2 N xs) (hf1 : f1 < B) (hf2 : f2 < B) (hB : B ≤ w.heap.size) (hN : N ≤ 2147483647) :
    Calls Tryd.prog 14 #[.agg #[.slice (some ⟨r1, 0, none⟩) N N, .slice (some ⟨f1, 0, none⟩) N N], .agg #[.slice (some ⟨r2, 0, none⟩) N N, .slice (some ⟨f2, 0, none⟩) N N]] w fun e w' => e = .returned (.bool true) ∧ Below w.heap.size w w' := by
  have HI : Bx (∀ W, Below w.heap.size w W → Calls Tryd.prog 20 #[.slice (some ⟨r1, 0, none⟩) N N, .slice (some ⟨r2, 0, none⟩) N N] W fun e w' => e = .returned (.bool true) ∧ ∃ k, w' = W.drewN k) := ⟨fun W hb => by
    subst hl
    have := sameInts_any W B _ _ _ _ ref ref (h1.below (hb.mono hB)) (h2.below (hb.mono hB))
    simpa using this⟩
  have HS : Bx (∀ W, Below w.heap.size w W → Calls Tryd.prog 21 #[.slice (some ⟨f1, 0, none⟩) N N, .slice (some ⟨f2, 0, none⟩) N N] W fun e w' => e = .returned (.bool true) ∧ ∃ k, w' = W.drewN k) := ⟨fun W hb => sameLists_yes W B f1 f2 N N N xs (h3.below (hb.mono hB) hf1) (h4.below (hb.mono hB) hf2) hN (Nat.le_refl _) (Nat.le_refl _)⟩
  have HB : Bx (∀ (c1 c2 : Array Value) (k : Nat), Below w.heap.size w (((w.alloc (.cells c1 28)).alloc (.cells c2 28)).drewN k)) := ⟨fun c1 c2 k => drewN_bel (((Below.refl _ _).alloc (Nat.le_refl _) _).alloc (by simp) _) k⟩
  have HB0 : Bx (∀ (c1 c2 : Array Value), Below w.heap.size w ((w.alloc (.cells c1 28)).alloc (.cells c2 28))) := ⟨fun c1 c2 => ((Below.refl _ _).alloc (Nat.le_refl _) _).alloc (by simp) _⟩
  clear h1 h2 h3 h4
  go_enter Tryd.func14, Tryd.ntmps14
  go_wp2_with (first
    | (go_at_call 20; refine Calls.mono (HI.out _ (HB0.out _ _)) ?_; rintro e w1 ⟨rfl, k1, rfl⟩)
    | (go_at_call 21; refine Calls.mono (HS.out _ (HB.out _ _ _)) ?_; rintro e w1 ⟨rfl, k2, rfl⟩))
  go_ret
  first | exact ⟨rfl, drewN_bel (HB.out _ _ _) _⟩ | exact ⟨rfl, HB.out _ _ _⟩ | exact ⟨rfl, HB0.out _ _⟩
end Go.Proofs.YtjjbgbadkbomlaaDoor
namespace Go.Proofs.YtjjbgbadkbomlaaDoor
open Go.RowKit
set_option linter.unusedVariables false
set_option linter.unusedSimpArgs false

/-- how much a list holds: its nodes, their kids and their names' bytes -/
def bulkL (l : List Nd) : Nat := (l.map fun n => n.kids.length + n.name.size + 1).sum
def moreI (n k : Int) : Int := if n > 2147483647 ∨ k > 2147483647 - n then 2147483648 else n + k
set_option maxHeartbeats 1000000 in
theorem more_any (n k : Nat) (w : World) (hn : n ≤ maxLen) (hk : k ≤ maxLen) : Calls Tryd.prog 16 #[.int .i64 n, .int .i64 k] w fun e w' => e = .returned (.int .i64 (moreI n k)) ∧ w = w' := by
  unfold maxLen at hn hk
  by_cases h1 : n ≤ 2147483647
  · go_enter Tryd.func16, Tryd.ntmps16
    go_wp2
    all_goals
      go_ret
      refine ⟨ret_int ?_, rfl⟩
      unfold moreI
      simp at *
      (repeat' split) <;> omega
  · have h2 : (2147483647 : Int) < (n : Int) := by omega
    go_enter Tryd.func16, Tryd.ntmps16
    go_wp2
    all_goals
      go_ret
      refine ⟨ret_int ?_, rfl⟩
      unfold moreI
      simp at *
      (repeat' split) <;> omega

def satN (x : Nat) : Nat := if x ≤ 2147483647 then x else 2147483648
theorem more_sat (x k : Nat) : moreI (satN x : Nat) (k : Nat) = (satN (x + k) : Nat) := by
  unfold moreI satN
  by_cases h1 : x ≤ 2147483647
  · rw [if_pos h1]
    by_cases h2 : x + k ≤ 2147483647
    · rw [if_pos h2, if_neg (by omega)]; omega
    · rw [if_neg h2, if_pos (by omega)]; omega
  · rw [if_neg h1, if_pos (by omega), if_neg (by omega)]; omega
theorem satN_le (x : Nat) : satN x ≤ 2147483648 := by unfold satN; split <;> omega
theorem bulk_take (l : List Nd) (i : Nat) (h : i < l.length) : bulkL (l.take (i + 1)) = bulkL (l.take i) + (ndN l i).kids.length + (ndN l i).name.size + 1 := by
  unfold bulkL
  rw [List.take_succ_eq_append_getElem h]
  have : ndN l i = l[i] := by unfold ndN; rw [List.getD_eq_getElem?_getD, List.getElem?_eq_getElem h]; rfl
  rw [this]
  simp only [List.map_append, List.sum_append, List.map_cons, List.map_nil, List.sum_cons, List.sum_nil]
  omega
theorem bulk_le (l : List Nd) (i : Nat) : bulkL (l.take i) ≤ bulkL l := by
  have : bulkL l = bulkL (l.take i) + bulkL (l.drop i) := by
    conv => lhs; rw [← List.take_append_drop i l]
    unfold bulkL
    rw [List.map_append, List.sum_append]
  omega
theorem bulk_len (l : List Nd) : l.length ≤ bulkL l := by
  unfold bulkL
  induction l with
  | nil => simp
  | cons a r ih => simp; omega

set_option maxRecDepth 100000 in
set_option maxHeartbeats 2000000 in
theorem beyond_some (w : World) (B nb no nc : Nat) (l : List Nd) (hn : Nodes w B nb no nc l) :
    Calls Tryd.prog 7 #[.slice (some ⟨nb, no, none⟩) l.length nc] w fun e w' => e = .returned (.bool (decide (2147483647 < bulkL l))) ∧ w = w' := by
  have HN : Bx _ := ⟨hn⟩
  have hmax := hn.max
  unfold maxLen at hmax
  generalize hF : decide (2147483647 < bulkL l) = F
  have HF : Bx _ := ⟨hF⟩
  clear hF hn
  go_enter Tryd.func7, Tryd.ntmps7
  go_wp2
  go_loop [3, 4] (fun n i => ∃ j s : Nat, j ≤ l.length ∧ s ≤ 2147483648 ∧ n = .int .i64 s ∧ i = .int .i64 j ∧ Bx (s = satN (bulkL (l.take j)))) (fun _ i => l.length - (intOf i).toNat)
  case atStart => exact ⟨0, 0, Nat.zero_le _, by omega, rfl, rfl, ⟨rfl⟩⟩
  case round =>
    obtain ⟨j, s, hj, hs, rfl, rfl, HS⟩ := hrel
    by_cases hlt : j < l.length
    · by_cases hs2 : s ≤ 2147483647
      · obtain ⟨ka, kc, hnd⟩ := HN.out.at_ j hlt
        have c2 := hnd.c2
        have c3 := hnd.c3
        have hwf := (HN.out.wf j hlt).name
        have hkl : (ndN l j).kids.length ≤ maxLen := by
          obtain ⟨_, _, _, _, h2, _⟩ := hnd.kids.ex
          exact h2
        have HB := bulk_take l j hlt
        generalize (ndN l j).kids.length = nk at *
        generalize (ndN l j).name = nm at *
        have M1 : Bx (∀ w, Calls Tryd.prog 16 #[.int .i64 s, .int .i64 nk] w fun e w' => e = .returned (.int .i64 (satN (bulkL (l.take j) + nk) : Nat)) ∧ w = w') := ⟨fun w => by have := more_any s nk w (by unfold maxLen; omega) hkl; rw [HS.out, more_sat] at this; rw [HS.out]; exact this⟩
        have M2 : Bx (∀ w, Calls Tryd.prog 16 #[.int .i64 (satN (bulkL (l.take j) + nk) : Nat), .int .i64 nm.size] w fun e w' => e = .returned (.int .i64 (satN (bulkL (l.take j) + nk + nm.size) : Nat)) ∧ w = w') := ⟨fun w => by have := more_any (satN (bulkL (l.take j) + nk)) nm.size w (by have := satN_le (bulkL (l.take j) + nk); unfold maxLen; omega) hwf; rw [more_sat] at this; exact this⟩
        have M3 : Bx (∀ w, Calls Tryd.prog 16 #[.int .i64 (satN (bulkL (l.take j) + nk + nm.size) : Nat), .int .i64 1] w fun e w' => e = .returned (.int .i64 (satN (bulkL (l.take j) + nk + nm.size + 1) : Nat)) ∧ w = w') := ⟨fun w => by have := more_any (satN (bulkL (l.take j) + nk + nm.size)) 1 w (by have := satN_le (bulkL (l.take j) + nk + nm.size); unfold maxLen; omega) (by simp [maxLen]); rw [more_sat] at this; exact this⟩
        have HS2 : Bx (satN (bulkL (l.take j) + nk + nm.size + 1) = satN (bulkL (l.take (j + 1)))) := ⟨by rw [HB]⟩
        have l3 := satN_le (bulkL (l.take j) + nk + nm.size + 1)
        generalize satN (bulkL (l.take j) + nk + nm.size + 1) = s3 at *
        generalize satN (bulkL (l.take j) + nk + nm.size) = s2 at *
        generalize satN (bulkL (l.take j) + nk) = s1 at *
        have T1 : Bx True := ⟨trivial⟩
        have T2 : Bx True := ⟨trivial⟩
        unfold maxLen at hwf hkl
        clear HB hnd HS HF
        go_wp2_with (first | (go_at_call 16; clear T1; refine Calls.mono (M1.out _) ?_; rintro e w' ⟨rfl, rfl⟩) | (go_at_call 16; clear T2; refine Calls.mono (M2.out _) ?_; rintro e w' ⟨rfl, rfl⟩) | (go_at_call 16; refine Calls.mono (M3.out _) ?_; rintro e w' ⟨rfl, rfl⟩))
        go_round
        case rel => exact ⟨j + 1, s3, by omega, l3, rfl, by go_num, HS2⟩
        case measure => simp [intOf]; omega
      · have HE : Bx (true = F) := ⟨by
          rw [← HF.out]
          have h1 := bulk_le l j
          have h2 := HS.out
          unfold satN at h2
          split at h2
          · omega
          · exact (decide_eq_true (by omega)).symm⟩
        have hd : decide ((s : Int) ≤ 2147483647) = false := by simp; omega
        have hg : (2147483647 : Int) < (s : Int) := by omega
        clear HS HF HN
        go_wp2
        go_ret
        exact ⟨ret_bool HE.out, rfl⟩
    · have HE : Bx (decide ((2147483647 : Int) < (s : Int)) = F) := ⟨by
        rw [← HF.out]
        have h2 := HS.out
        rw [List.take_of_length_le (by omega)] at h2
        unfold satN at h2
        rw [decide_eq_decide]
        split at h2 <;> omega⟩
      clear HS HF HN
      go_wp2
      go_ret
      exact ⟨ret_bool HE.out, rfl⟩

set_option maxRecDepth 100000 in
set_option maxHeartbeats 2000000 in
theorem beyond_none (w : World) (a : Option Addr) (cap : Nat) :
    Calls Tryd.prog 7 #[.slice a 0 cap] w fun e w' => e = .returned (.bool false) ∧ w = w' := by
  go_enter Tryd.func7, Tryd.ntmps7
  go_wp2
  go_loop [3, 4] (fun n i => n = .int .i64 0 ∧ i = .int .i64 0) (fun _ _ => 0)
  case atStart => exact ⟨rfl, rfl⟩
  case round =>
    obtain ⟨rfl, rfl⟩ := hrel
    go_wp2
    go_ret
    exact ⟨rfl, rfl⟩
end Go.Proofs.YtjjbgbadkbomlaaDoor
