import Derived.Test.YtadmpgegolmkgaaDoorCWdN
import Derived.Test.YtadmpgegolmkgaaDoorCWkC
namespace Go.Proofs.YtadmpgegolmkgaaDoor
open Go.RowKit
set_option linter.unusedVariables false
set_option linter.unusedSimpArgs false

/-! ### an instruction on its own -/
def inI (n m : Int) : Bool := decide (0 ≤ n) && decide (n ≤ m)
set_option maxRecDepth 100000 in
set_option maxHeartbeats 1000000 in
theorem within_any (n m : Int) (w : World) : Calls Tryd.prog 49 #[.int .i64 n, .int .i64 m] w fun e w' => e = .returned (.bool (inI n m)) ∧ w = w' := by
  unfold inI
  by_cases h0 : 0 ≤ n
  · have hb : decide (0 ≤ n) = true := decide_eq_true h0
    rw [hb]
    go_enter Tryd.func49, Tryd.ntmps49
    go_wp2
    go_ret
    exact ⟨ret_bool (by simp), rfl⟩
  · have hb : decide (0 ≤ n) = false := decide_eq_false h0
    rw [hb]
    go_enter Tryd.func49, Tryd.ntmps49
    go_wp2
    go_ret
    exact ⟨ret_bool (by simp), rfl⟩
def binI (n : Int) : Bool := n == 21 || (n == 22 || (n == 23 || (n == 24 || (n == 25 || (n == 26 || (n == 31 || (n == 32 || (n == 41 || (n == 42 || n == 43)))))))))
set_option maxRecDepth 100000 in
set_option maxHeartbeats 4000000 in
theorem isBinary_any (n : Int) (w : World) : Calls Tryd.prog 85 #[.int .i64 n] w fun e w' => e = .returned (.bool (binI n)) ∧ w = w' := by
  unfold binI
  by_cases h1 : n = 21
  · subst h1
    go_enter Tryd.func85, Tryd.ntmps85
    go_wp2
    go_ret
    exact ⟨rfl, rfl⟩
  by_cases h2 : n = 22
  · subst h2
    go_enter Tryd.func85, Tryd.ntmps85
    go_wp2
    go_ret
    exact ⟨rfl, rfl⟩
  by_cases h3 : n = 23
  · subst h3
    go_enter Tryd.func85, Tryd.ntmps85
    go_wp2
    go_ret
    exact ⟨rfl, rfl⟩
  by_cases h4 : n = 24
  · subst h4
    go_enter Tryd.func85, Tryd.ntmps85
    go_wp2
    go_ret
    exact ⟨rfl, rfl⟩
  by_cases h5 : n = 25
  · subst h5
    go_enter Tryd.func85, Tryd.ntmps85
    go_wp2
    go_ret
    exact ⟨rfl, rfl⟩
  by_cases h6 : n = 26
  · subst h6
    go_enter Tryd.func85, Tryd.ntmps85
    go_wp2
    go_ret
    exact ⟨rfl, rfl⟩
  by_cases h7 : n = 31
  · subst h7
    go_enter Tryd.func85, Tryd.ntmps85
    go_wp2
    go_ret
    exact ⟨rfl, rfl⟩
  by_cases h8 : n = 32
  · subst h8
    go_enter Tryd.func85, Tryd.ntmps85
    go_wp2
    go_ret
    exact ⟨rfl, rfl⟩
  by_cases h9 : n = 41
  · subst h9
    go_enter Tryd.func85, Tryd.ntmps85
    go_wp2
    go_ret
    exact ⟨rfl, rfl⟩
  by_cases h10 : n = 42
  · subst h10
    go_enter Tryd.func85, Tryd.ntmps85
    go_wp2
    go_ret
    exact ⟨rfl, rfl⟩
  by_cases h11 : n = 43
  · subst h11
    go_enter Tryd.func85, Tryd.ntmps85
    go_wp2
    go_ret
    exact ⟨rfl, rfl⟩
  have b1 : (n == 21) = false := by simp [h1]
  have b2 : (n == 22) = false := by simp [h2]
  have b3 : (n == 23) = false := by simp [h3]
  have b4 : (n == 24) = false := by simp [h4]
  have b5 : (n == 25) = false := by simp [h5]
  have b6 : (n == 26) = false := by simp [h6]
  have b7 : (n == 31) = false := by simp [h7]
  have b8 : (n == 32) = false := by simp [h8]
  have b9 : (n == 41) = false := by simp [h9]
  have b10 : (n == 42) = false := by simp [h10]
  have b11 : (n == 43) = false := by simp [h11]
  rw [b1, b2, b3, b4, b5, b6, b7, b8, b9, b10, b11]
  clear h1 h2 h3 h4 h5 h6 h7 h8 h9 h10 h11
  go_enter Tryd.func85, Tryd.ntmps85
  go_wp2
  go_ret
  exact ⟨rfl, rfl⟩
def pathGo (l : List Int) : Bool := l.all fun x => decide (-1 ≤ x)
theorem pathGo_at {l : List Int} {k : Nat} (h : k < l.length) : pathGo (l.drop k) = (decide (-1 ≤ l[k]) && pathGo (l.drop (k + 1))) := by
  unfold pathGo
  rw [List.drop_eq_getElem_cons h, List.all_cons]
set_option maxRecDepth 100000 in
set_option maxHeartbeats 2000000 in
theorem isPath_any (w : World) (B : Nat) (a : Option Addr) (cp : Nat) (ks : List Int) (hk : IntsV w B a cp ks) (hlen : ks.length ≤ 281474976710656) : Calls Tryd.prog 86 #[.slice a ks.length cp] w fun e w' => e = .returned (.bool (pathGo ks && decide (0 < ks.length))) ∧ w = w' := by
  have HG : Bx (pathGo (ks.drop 0) = pathGo ks) := ⟨by rw [List.drop_zero]⟩
  have HK : Bx _ := ⟨hk⟩
  have hcp := hk.cap
  clear hk
  generalize pathGo ks = r at *
  go_enter Tryd.func86, Tryd.ntmps86
  go_wp2
  go_loopg [7] (ks.length + 1) (fun f v7 wr => ∃ k : Nat, f = ks.length + 1 - k ∧ k ≤ ks.length ∧ v7 = .int .i64 k ∧ Bx (pathGo (ks.drop k) = r) ∧ w = wr)
  case atStart => exact ⟨0, by simp, Nat.zero_le _, rfl, HG, rfl⟩
  case round =>
    obtain ⟨k, hf, hk, rfl, HR, rfl⟩ := hrel
    by_cases hlt : k < ks.length
    · obtain ⟨b, o, rfl, hb, hc⟩ := HK.out.at_ (by omega)
      have c0 := hc k hlt
      have HR2 : Bx _ := ⟨(pathGo_at hlt).symm.trans HR.out⟩
      have hkI : (k : Int) < (ks.length : Int) := by omega
      clear hc HR HK
      generalize ks[k] = y at *
      by_cases hy : -1 ≤ y
      · have hyb : decide (y < -1) = false := decide_eq_false (by omega)
        have hr := HR2.out
        rw [decide_eq_true hy, Bool.true_and] at hr
        have HR3 : Bx _ := ⟨hr⟩
        clear hr HR2
        go_wp2
        go_roundg (ks.length + 1 - (k + 1))
        case measure => omega
        case rel => exact ⟨k + 1, rfl, by omega, by simp, HR3, rfl⟩
      · have hyb : decide (y < -1) = true := decide_eq_true (by omega)
        have hr := HR2.out
        rw [decide_eq_false hy, Bool.false_and] at hr
        subst hr
        clear HR2
        go_wp2
        go_ret
        exact ⟨rfl, rfl⟩
    · obtain rfl : k = ks.length := by omega
      have hr := HR.out
      rw [List.drop_length] at hr
      subst hr
      clear HR HK
      go_wp2
      go_ret
      exact ⟨ret_bool (by simp [pathGo]), rfl⟩
def armsGo : List Int → Bool
  | [] => true
  | [k] => inI k 1
  | k :: _ :: r => inI k 1 && armsGo r
theorem armsGo_at {l : List Int} {k : Nat} (h : k < l.length) : armsGo (l.drop k) = (inI l[k] 1 && armsGo (l.drop (k + 2))) := by
  rw [List.drop_eq_getElem_cons h]
  by_cases h2 : k + 1 < l.length
  · rw [List.drop_eq_getElem_cons h2, armsGo]
  · rw [List.drop_eq_nil_of_le (by omega), List.drop_eq_nil_of_le (by omega), armsGo, armsGo, Bool.and_true]
set_option maxRecDepth 100000 in
set_option maxHeartbeats 2000000 in
theorem areArms_any (w : World) (B : Nat) (a : Option Addr) (cp : Nat) (ks : List Int) (hk : IntsV w B a cp ks) (hlen : ks.length ≤ 281474976710656) : Calls Tryd.prog 87 #[.slice a ks.length cp] w fun e w' => e = .returned (.bool (armsGo ks && ks.length % 2 == 0)) ∧ w = w' := by
  have HG : Bx (armsGo (ks.drop 0) = armsGo ks) := ⟨by rw [List.drop_zero]⟩
  have HK : Bx _ := ⟨hk⟩
  have hcp := hk.cap
  have HW : Bx (∀ y, _) := ⟨fun y => within_any y 1 w⟩
  clear hk
  generalize armsGo ks = r at *
  go_enter Tryd.func87, Tryd.ntmps87
  go_wp2
  go_loopg [3] (ks.length + 2) (fun f v3 wr => ∃ k : Nat, f = ks.length + 2 - k ∧ k ≤ ks.length + 1 ∧ v3 = .int .i64 k ∧ Bx (armsGo (ks.drop k) = r) ∧ w = wr)
  case atStart => exact ⟨0, by simp, Nat.zero_le _, rfl, HG, rfl⟩
  case round =>
    obtain ⟨k, hf, hk, rfl, HR, rfl⟩ := hrel
    by_cases hlt : k < ks.length
    · obtain ⟨b, o, rfl, hb, hc⟩ := HK.out.at_ (by omega)
      have c0 := hc k hlt
      have HR2 : Bx _ := ⟨(armsGo_at hlt).symm.trans HR.out⟩
      have hkI : (k : Int) < (ks.length : Int) := by omega
      clear hc HR HK
      generalize ks[k] = y at *
      cases hy : inI y 1 with
      | true =>
        have hr := HR2.out
        rw [hy, Bool.true_and] at hr
        have HR3 : Bx _ := ⟨hr⟩
        have HWY := HW.out y
        rw [hy] at HWY
        clear hr HR2 hy HW
        go_wp2_with (first
          | (go_at_call 49; refine HWY.mono ?_; rintro e w1 ⟨rfl, rfl⟩))
        go_roundg (ks.length + 2 - (k + 2))
        case measure => omega
        case rel => exact ⟨k + 2, rfl, by omega, by simp, HR3, rfl⟩
      | false =>
        have hr := HR2.out
        rw [hy, Bool.false_and] at hr
        subst hr
        have HWY := HW.out y
        rw [hy] at HWY
        clear HR2 hy HW
        go_wp2_with (first
          | (go_at_call 49; refine HWY.mono ?_; rintro e w1 ⟨rfl, rfl⟩))
        go_ret
        exact ⟨rfl, rfl⟩
    · have hr := HR.out
      rw [List.drop_eq_nil_of_le (by omega)] at hr
      subst hr
      have hge : decide ((k : Int) < (ks.length : Int)) = false := decide_eq_false (by omega)
      clear HR HK HW
      go_wp2
      go_ret
      exact ⟨ret_bool (by rw [armsGo, Bool.true_and, Bool.eq_iff_iff, beq_iff_eq, beq_iff_eq]; omega), rfl⟩
def listI (v : Int) (l : List Int) : Bool := if v = 10 then pathGo l && decide (0 < l.length) else if v = 11 then armsGo l && l.length % 2 == 0 else l.length == 0
set_option maxRecDepth 100000 in
set_option maxHeartbeats 2000000 in
theorem fitsList_any (w : World) (B : Nat) (a : Option Addr) (cp : Nat) (ks : List Int) (hk : IntsV w B a cp ks) (hlen : ks.length ≤ 281474976710656) (v : Int) : Calls Tryd.prog 72 #[.int .i64 v, .slice a ks.length cp] w fun e w' => e = .returned (.bool (listI v ks)) ∧ w = w' := by
  have HP : Bx _ := ⟨isPath_any w B a cp ks hk hlen⟩
  have HA : Bx _ := ⟨areArms_any w B a cp ks hk hlen⟩
  unfold listI
  clear hk
  by_cases h1 : v = 10
  · subst h1
    rw [if_pos rfl]
    go_enter Tryd.func72, Tryd.ntmps72
    go_wp2_with (first
      | (go_at_call 86; refine HP.out.mono ?_; rintro e w1 ⟨rfl, rfl⟩))
    go_ret
    exact ⟨rfl, rfl⟩
  · rw [if_neg h1]
    have b1 : (v == 10) = false := by simp [h1]
    by_cases h2 : v = 11
    · subst h2
      rw [if_pos rfl]
      clear h1
      go_enter Tryd.func72, Tryd.ntmps72
      go_wp2_with (first
        | (go_at_call 87; refine HA.out.mono ?_; rintro e w1 ⟨rfl, rfl⟩))
      go_ret
      exact ⟨rfl, rfl⟩
    · rw [if_neg h2]
      have b2 : (v == 11) = false := by simp [h2]
      clear h1 h2 HP HA
      go_enter Tryd.func72, Tryd.ntmps72
      go_wp2
      go_ret
      exact ⟨ret_bool (by rw [Bool.eq_iff_iff, beq_iff_eq, beq_iff_eq]; omega), rfl⟩
end Go.Proofs.YtadmpgegolmkgaaDoor
namespace Go.Proofs.YtadmpgegolmkgaaDoor
open Go.RowKit
set_option linter.unusedVariables false
set_option linter.unusedSimpArgs false

/-! ### the judge -/
/-- bools that are read -/
structure BoolsV (w : World) (a : Option Addr) (cap : Nat) (l : List Bool) : Prop where
  cap : l.length ≤ cap
  max : l.length ≤ 2147483648
  at_ : ∀ i (h : i < l.length), ∃ b o, a = some ⟨b, o, none⟩ ∧ b < w.heap.size ∧ w.cell? ⟨b, o + i, none⟩ = some (.bool l[i])
theorem BoolsV.below {w w' : World} {a : Option Addr} {cap : Nat} {l : List Bool} (h : BoolsV w a cap l) (hb : Below w.heap.size w w') : BoolsV w' a cap l := by
  refine ⟨h.cap, h.max, fun i hi => ?_⟩
  obtain ⟨b, o, e, h1, h2⟩ := h.at_ i hi
  exact ⟨b, o, e, Nat.lt_of_lt_of_le h1 hb.size, (hb.cell (p := ⟨b, _, none⟩) h1).trans h2⟩
structure JgM (w : World) (jb B : Nat) (u : CUn) (pa : Option Addr) (pc : Nat) (da : Option Addr) (dc : Nat) (dfs : List Bool) (pg : CPg) (ca : Option Addr) (cc : Nat) : Prop where
  h : w.heap[jb]? = some (.cells #[.slice pa u.progs.length pc, .slice da dfs.length dc, .int .i64 pg.params, .int .i64 pg.slots, .int .i64 pg.caps, .bool pg.res, .slice ca pg.code.length cc] 87 (0, 0))
  df : BoolsV w da dc dfs
  pr : Row (PgAt w B) B 5 pa pc u.progs
  bw : B ≤ w.heap.size
  cl : pg.code.length ≤ 268435456
theorem heap_lt' {w : World} {k : Nat} {o : Obj} (h : w.heap[k]? = some o) : k < w.heap.size := (Array.getElem?_eq_some_iff.1 h).1
theorem JgM.below {w w' : World} {jb B pc dc cc : Nat} {u : CUn} {pa da ca : Option Addr} {dfs : List Bool} {pg : CPg} (h : JgM w jb B u pa pc da dc dfs pg ca cc) (hb : Below w.heap.size w w') : JgM w' jb B u pa pc da dc dfs pg ca cc :=
  ⟨(hb.block _ (heap_lt' h.h)).trans h.h, h.df.below hb, h.pr.mono fun b o x hx he => he.below (hb.mono h.bw) (Nat.le_refl _) hx, Nat.le_trans h.bw hb.size, h.cl⟩
theorem JgM.cells {w : World} {jb B pc dc cc : Nat} {u : CUn} {pa da ca : Option Addr} {dfs : List Bool} {pg : CPg} (h : JgM w jb B u pa pc da dc dfs pg ca cc) : w.cell? ⟨jb, 0, none⟩ = some (.slice pa u.progs.length pc) ∧ w.cell? ⟨jb, 1, none⟩ = some (.slice da dfs.length dc) ∧ w.cell? ⟨jb, 3, none⟩ = some (.int .i64 pg.slots) ∧ w.cell? ⟨jb, 4, none⟩ = some (.int .i64 pg.caps) ∧ w.cell? ⟨jb, 6, none⟩ = some (.slice ca pg.code.length cc) ∧ jb < w.heap.size :=
  ⟨cell_blk h.h rfl, cell_blk h.h rfl, cell_blk h.h rfl, cell_blk h.h rfl, cell_blk h.h rfl, heap_lt' h.h⟩
def fitsI (dfs : List Bool) (np : Nat) (v n : Int) : Bool :=
  if v = 0 then n == 0 else if v = 2 then inI n 1 else if v = 3 then decide (0 ≤ n) else if v = 4 then decide (2 ≤ n) else if v = 5 then inI n ((dfs.length : Int) - 1) && dfs.getD n.toNat false else if v = 6 then n == 1 || n == 2 else if v = 7 then binI n else if v = 8 then inI n ((np : Int) - 1) else true
set_option maxRecDepth 100000 in
set_option maxHeartbeats 4000000 in
theorem fits_any (w : World) {jb B pc dc cc : Nat} {u : CUn} {pa da ca : Option Addr} {dfs : List Bool} {pg : CPg} (h : JgM w jb B u pa pc da dc dfs pg ca cc) (v n : Int) : Calls Tryd.prog 71 #[.pointer (some ⟨jb, 0, none⟩), .int .i64 v, .int .i64 n] w fun e w' => e = .returned (.bool (fitsI dfs u.progs.length v n)) ∧ w = w' := by
  have HW : Bx (∀ m, _) := ⟨fun m => within_any n m w⟩
  have HB : Bx _ := ⟨isBinary_any n w⟩
  obtain ⟨c0, c1, _, _, _, hjl⟩ := h.cells
  have hpm := h.pr.max
  have hpc := h.pr.cap
  have hdm := h.df.max
  have hdc := h.df.cap
  have HD : Bx _ := ⟨h.df.at_⟩
  unfold maxLen at hpm
  clear h
  unfold fitsI
  by_cases h0 : v = 0
  · subst h0
    simp only [if_true]
    go_enter Tryd.func71, Tryd.ntmps71
    go_wp2
    go_ret
    exact ⟨rfl, rfl⟩
  rw [if_neg h0]
  by_cases h2 : v = 2
  · subst h2
    simp only [if_true]
    clear h0
    go_enter Tryd.func71, Tryd.ntmps71
    go_wp2_with (first
      | (go_at_call 49; refine (HW.out _).mono ?_; rintro e w1 ⟨rfl, rfl⟩))
    go_ret
    exact ⟨rfl, rfl⟩
  rw [if_neg h2]
  by_cases h3 : v = 3
  · subst h3
    simp only [if_true]
    clear h0 h2
    go_enter Tryd.func71, Tryd.ntmps71
    go_wp2
    go_ret
    exact ⟨rfl, rfl⟩
  rw [if_neg h3]
  by_cases h4 : v = 4
  · subst h4
    simp only [if_true]
    clear h0 h2 h3
    go_enter Tryd.func71, Tryd.ntmps71
    go_wp2
    go_ret
    exact ⟨rfl, rfl⟩
  rw [if_neg h4]
  by_cases h5 : v = 5
  · subst h5
    simp only [if_true]
    clear h0 h2 h3 h4
    have hwr : IntKind.i64.wrap ((dfs.length : Int) - 1) = (dfs.length : Int) - 1 := by rw [IntKind.wrap_i64]; omega
    have HWL := HW.out ((dfs.length : Int) - 1)
    cases hin : inI n ((dfs.length : Int) - 1) with
    | false =>
      rw [hin] at HWL
      simp only [Bool.false_and]
      clear hin
      go_enter Tryd.func71, Tryd.ntmps71
      go_wp2_with (first
        | (go_at_call 49; refine HWL.mono ?_; rintro e w1 ⟨rfl, rfl⟩))
      go_ret
      exact ⟨rfl, rfl⟩
    | true =>
      rw [hin] at HWL
      have hin2 : 0 ≤ n ∧ n ≤ (dfs.length : Int) - 1 := by simpa [inI] using hin
      obtain ⟨m, rfl⟩ : ∃ m : Nat, n = m := ⟨n.toNat, by omega⟩
      have hml : m < dfs.length := by omega
      obtain ⟨b, o, rfl, hb, hc⟩ := HD.out m hml
      have hmI : (m : Int) < (dfs.length : Int) := by omega
      have e1 : dfs.getD ((m : Int)).toNat false = dfs[m] := by
        rw [show ((m : Int)).toNat = m by omega, List.getD_eq_getElem?_getD, List.getElem?_eq_getElem hml]
        rfl
      rw [e1]
      simp only [Bool.true_and]
      generalize dfs[m] = y at *
      clear hin hin2 e1 HD
      go_enter Tryd.func71, Tryd.ntmps71
      go_wp2_with (first
        | (go_at_call 49; refine HWL.mono ?_; rintro e w1 ⟨rfl, rfl⟩))
      go_ret
      exact ⟨rfl, rfl⟩
  rw [if_neg h5]
  by_cases h6 : v = 6
  · subst h6
    simp only [if_true]
    clear h0 h2 h3 h4 h5
    cases h1 : (n == 1) with
    | true =>
      go_enter Tryd.func71, Tryd.ntmps71
      go_wp2
      go_ret
      exact ⟨ret_bool (by simp), rfl⟩
    | false =>
      go_enter Tryd.func71, Tryd.ntmps71
      go_wp2
      go_ret
      exact ⟨ret_bool (by simp), rfl⟩
  rw [if_neg h6]
  by_cases h7 : v = 7
  · subst h7
    simp only [if_true]
    clear h0 h2 h3 h4 h5 h6
    go_enter Tryd.func71, Tryd.ntmps71
    go_wp2_with (first
      | (go_at_call 85; refine HB.out.mono ?_; rintro e w1 ⟨rfl, rfl⟩))
    go_ret
    exact ⟨rfl, rfl⟩
  rw [if_neg h7]
  by_cases h8 : v = 8
  · subst h8
    simp only [if_true]
    clear h0 h2 h3 h4 h5 h6 h7
    have hwr : IntKind.i64.wrap ((u.progs.length : Int) - 1) = (u.progs.length : Int) - 1 := by rw [IntKind.wrap_i64]; omega
    go_enter Tryd.func71, Tryd.ntmps71
    go_wp2_with (first
      | (go_at_call 49; refine (HW.out _).mono ?_; rintro e w1 ⟨rfl, rfl⟩))
    go_ret
    exact ⟨rfl, rfl⟩
  rw [if_neg h8]
  have b0 : (v == 0) = false := by simp [h0]
  have b2 : (v == 2) = false := by simp [h2]
  have b3 : (v == 3) = false := by simp [h3]
  have b4 : (v == 4) = false := by simp [h4]
  have b5 : (v == 5) = false := by simp [h5]
  have b6 : (v == 6) = false := by simp [h6]
  have b7 : (v == 7) = false := by simp [h7]
  have b8 : (v == 8) = false := by simp [h8]
  clear h0 h2 h3 h4 h5 h6 h7 h8
  go_enter Tryd.func71, Tryd.ntmps71
  go_wp2
  go_ret
  exact ⟨rfl, rfl⟩
def slotI (pg : CPg) (v n : Int) : Bool := if v = 12 then inI n (pg.slots - 1) else if v = 13 then inI n (pg.caps - 1) else true
set_option maxRecDepth 100000 in
set_option maxHeartbeats 4000000 in
theorem hasSlot_any (w : World) {jb B pc dc cc : Nat} {u : CUn} {pa da ca : Option Addr} {dfs : List Bool} {pg : CPg} (h : JgM w jb B u pa pc da dc dfs pg ca cc) (h1 : 0 ≤ pg.slots ∧ pg.slots ≤ 65536) (h2 : 0 ≤ pg.caps ∧ pg.caps ≤ 65536) (v n : Int) : Calls Tryd.prog 51 #[.pointer (some ⟨jb, 0, none⟩), .int .i64 v, .int .i64 n] w fun e w' => e = .returned (.bool (slotI pg v n)) ∧ w = w' := by
  have HW : Bx (∀ m, _) := ⟨fun m => within_any n m w⟩
  obtain ⟨_, _, c3, c4, _, hjl⟩ := h.cells
  have w1 : IntKind.i64.wrap (pg.slots - 1) = pg.slots - 1 := by rw [IntKind.wrap_i64]; omega
  have w2 : IntKind.i64.wrap (pg.caps - 1) = pg.caps - 1 := by rw [IntKind.wrap_i64]; omega
  clear h
  unfold slotI
  by_cases h3 : v = 12
  · subst h3
    simp only [if_true]
    go_enter Tryd.func51, Tryd.ntmps51
    go_wp2_with (first
      | (go_at_call 49; refine (HW.out _).mono ?_; rintro e w1 ⟨rfl, rfl⟩))
    go_ret
    exact ⟨rfl, rfl⟩
  rw [if_neg h3]
  by_cases h4 : v = 13
  · subst h4
    simp only [if_true]
    clear h3
    go_enter Tryd.func51, Tryd.ntmps51
    go_wp2_with (first
      | (go_at_call 49; refine (HW.out _).mono ?_; rintro e w1 ⟨rfl, rfl⟩))
    go_ret
    exact ⟨rfl, rfl⟩
  rw [if_neg h4]
  have b3 : (v == 12) = false := by simp [h3]
  have b4 : (v == 13) = false := by simp [h4]
  clear h3 h4
  go_enter Tryd.func51, Tryd.ntmps51
  go_wp2
  go_ret
  exact ⟨rfl, rfl⟩
def aheadI (cl : Nat) (i t : Int) : Bool := decide (i < t) && decide (t < cl)
set_option maxRecDepth 100000 in
set_option maxHeartbeats 4000000 in
theorem isAhead_any (w : World) {jb B pc dc cc : Nat} {u : CUn} {pa da ca : Option Addr} {dfs : List Bool} {pg : CPg} (h : JgM w jb B u pa pc da dc dfs pg ca cc) (i t : Int) : Calls Tryd.prog 73 #[.pointer (some ⟨jb, 0, none⟩), .int .i64 i, .int .i64 t] w fun e w' => e = .returned (.bool (aheadI pg.code.length i t)) ∧ w = w' := by
  obtain ⟨_, _, _, _, c6, hjl⟩ := h.cells
  clear h
  unfold aheadI
  by_cases h1 : i < t
  · have hb : decide (i < t) = true := decide_eq_true h1
    rw [hb]
    clear h1
    go_enter Tryd.func73, Tryd.ntmps73
    go_wp2
    go_ret
    exact ⟨ret_bool (by simp), rfl⟩
  · have hb : decide (i < t) = false := decide_eq_false h1
    rw [hb]
    clear h1
    go_enter Tryd.func73, Tryd.ntmps73
    go_wp2
    go_ret
    exact ⟨ret_bool (by simp), rfl⟩
def tgGo (cl : Nat) (i : Int) : List Int → Bool
  | _ :: t :: r => aheadI cl i t && tgGo cl i r
  | _ => true
theorem tgGo_at {cl : Nat} {i : Int} {l : List Int} {k : Nat} (h : k + 1 < l.length) : tgGo cl i (l.drop k) = (aheadI cl i l[k + 1] && tgGo cl i (l.drop (k + 2))) := by
  rw [List.drop_eq_getElem_cons (show k < l.length by omega), List.drop_eq_getElem_cons h, tgGo]
theorem tgGo_end {cl : Nat} {i : Int} {l : List Int} {k : Nat} (h : ¬ k + 1 < l.length) : tgGo cl i (l.drop k) = true := by
  by_cases h2 : k < l.length
  · rw [List.drop_eq_getElem_cons h2, List.drop_eq_nil_of_le (by omega), tgGo]
    intro a b c hh
    cases hh
  · rw [List.drop_eq_nil_of_le (by omega), tgGo]
    intro a b c hh
    cases hh
set_option maxRecDepth 100000 in
set_option maxHeartbeats 4000000 in
theorem haveTargets_any (w : World) {jb B pc dc cc : Nat} {u : CUn} {pa da ca : Option Addr} {dfs : List Bool} {pg : CPg} (h : JgM w jb B u pa pc da dc dfs pg ca cc) (i : Int) (a : Option Addr) (cp : Nat) (ks : List Int) (hk : IntsV w B a cp ks) (hlen : ks.length ≤ 281474976710656) : Calls Tryd.prog 74 #[.pointer (some ⟨jb, 0, none⟩), .int .i64 i, .slice a ks.length cp] w fun e w' => e = .returned (.bool (tgGo pg.code.length i ks)) ∧ w = w' := by
  have HA : Bx (∀ t, _) := ⟨fun t => isAhead_any w h i t⟩
  have HG : Bx (tgGo pg.code.length i (ks.drop 0) = tgGo pg.code.length i ks) := ⟨by rw [List.drop_zero]⟩
  have HK : Bx _ := ⟨hk⟩
  have hcp := hk.cap
  clear hk h
  generalize tgGo pg.code.length i ks = r at *
  go_enter Tryd.func74, Tryd.ntmps74
  go_wp2
  go_loopg [7] (ks.length + 2) (fun f v7 wr => ∃ k : Nat, f = ks.length + 2 - k ∧ k ≤ ks.length + 1 ∧ v7 = .int .i64 ((k : Int) + 1) ∧ Bx (tgGo pg.code.length i (ks.drop k) = r) ∧ w = wr)
  case atStart => exact ⟨0, by simp, Nat.zero_le _, rfl, HG, rfl⟩
  case round =>
    obtain ⟨k, hf, hk, rfl, HR, rfl⟩ := hrel
    by_cases hlt : k + 1 < ks.length
    · obtain ⟨b, o, rfl, hb, hc⟩ := HK.out.at_ (by omega)
      have c0 := hc (k + 1) hlt
      have HR2 : Bx _ := ⟨(tgGo_at hlt).symm.trans HR.out⟩
      have hkI : (k : Int) + 1 < (ks.length : Int) := by omega
      have hk0 : (0 : Int) ≤ (k : Int) + 1 := by omega
      have hkN : ((k : Int) + 1).toNat = k + 1 := by omega
      have hwr : IntKind.i64.wrap ((k : Int) + 1 + 2) = (k : Int) + 1 + 2 := by rw [IntKind.wrap_i64]; omega
      clear hc HR HK
      generalize ks[k + 1] = y at *
      cases hy : aheadI pg.code.length i y with
      | true =>
        have hr := HR2.out
        rw [hy, Bool.true_and] at hr
        have HR3 : Bx _ := ⟨hr⟩
        have HWY := HA.out y
        rw [hy] at HWY
        clear hr HR2 hy HA
        go_wp2_with (first
          | (go_at_call 73; refine HWY.mono ?_; rintro e w1 ⟨rfl, rfl⟩))
        go_roundg (ks.length + 2 - (k + 2))
        case measure => omega
        case rel => exact ⟨k + 2, rfl, by omega, by simp; omega, HR3, rfl⟩
      | false =>
        have hr := HR2.out
        rw [hy, Bool.false_and] at hr
        subst hr
        have HWY := HA.out y
        rw [hy] at HWY
        clear HR2 hy HA
        go_wp2_with (first
          | (go_at_call 73; refine HWY.mono ?_; rintro e w1 ⟨rfl, rfl⟩))
        go_ret
        exact ⟨rfl, rfl⟩
    · have hr := HR.out
      rw [tgGo_end hlt] at hr
      subst hr
      have hge : decide ((k : Int) + 1 < (ks.length : Int)) = false := decide_eq_false (by omega)
      clear HR HK HA
      go_wp2
      go_ret
      exact ⟨rfl, rfl⟩
end Go.Proofs.YtadmpgegolmkgaaDoor
