import Derived.Test.YtadmpgegolmkgaaDoorCWvV
import Derived.Test.YtadmpgegolmkgaaDoorCWkC
import Derived.Test.YtadmpgegolmkgaaDoorCWsN
namespace Go.Proofs.YtadmpgegolmkgaaDoor
open Go.RowKit
set_option linter.unusedVariables false
set_option linter.unusedSimpArgs false

/-! ### the judge -/
/-- bools that are read -/
structure BoolsV (w : World) (a : Option Addr) (cap : Nat) (l : List Bool) : Prop where
  cap : l.length ≤ cap
  max : l.length ≤ 2147483648
  at_ : ∀ i (h : i < l.length), ∃ b o, a = some ⟨b, o, none⟩ ∧ b < w.heap.size ∧ w.cell? ⟨b, o + i, none⟩ = some (.bool l[i])
theorem BoolsV.below {w w' : World} {a : Option Addr} {cap : Nat} {l : List Bool} (h : BoolsV w a cap l) (hb : Below w.heap.size w w') : BoolsV w' a cap l := by
  refine ⟨h.cap, h.max, fun i hi => ?_⟩
  obtain ⟨b, o, e, h1, h2⟩ := h.at_ i hi
  exact ⟨b, o, e, Nat.lt_of_lt_of_le h1 hb.size, (hb.cell (p := ⟨b, _, none⟩) h1).trans h2⟩
structure JgM (w : World) (jb B : Nat) (u : CUn) (pa : Option Addr) (pc : Nat) (da : Option Addr) (dc : Nat) (dfs : List Bool) (pg : CPg) (ca : Option Addr) (cc : Nat) : Prop where
  h : w.heap[jb]? = some (.cells #[.slice pa u.progs.length pc, .slice da dfs.length dc, .int .i64 pg.params, .int .i64 pg.slots, .int .i64 pg.caps, .bool pg.res, .slice ca pg.code.length cc] 87 (0, 0))
  df : BoolsV w da dc dfs
  pr : Row (PgAt w B) B 5 pa pc u.progs
  bw : B ≤ w.heap.size
  cl : pg.code.length ≤ 268435456
theorem heap_lt' {w : World} {k : Nat} {o : Obj} (h : w.heap[k]? = some o) : k < w.heap.size := (Array.getElem?_eq_some_iff.1 h).1
theorem JgM.below {w w' : World} {jb B pc dc cc : Nat} {u : CUn} {pa da ca : Option Addr} {dfs : List Bool} {pg : CPg} (h : JgM w jb B u pa pc da dc dfs pg ca cc) (hb : Below w.heap.size w w') : JgM w' jb B u pa pc da dc dfs pg ca cc :=
  ⟨(hb.block _ (heap_lt' h.h)).trans h.h, h.df.below hb, h.pr.mono fun b o x hx he => he.below (hb.mono h.bw) (Nat.le_refl _) hx, Nat.le_trans h.bw hb.size, h.cl⟩
theorem JgM.cells {w : World} {jb B pc dc cc : Nat} {u : CUn} {pa da ca : Option Addr} {dfs : List Bool} {pg : CPg} (h : JgM w jb B u pa pc da dc dfs pg ca cc) : w.cell? ⟨jb, 0, none⟩ = some (.slice pa u.progs.length pc) ∧ w.cell? ⟨jb, 1, none⟩ = some (.slice da dfs.length dc) ∧ w.cell? ⟨jb, 3, none⟩ = some (.int .i64 pg.slots) ∧ w.cell? ⟨jb, 4, none⟩ = some (.int .i64 pg.caps) ∧ w.cell? ⟨jb, 6, none⟩ = some (.slice ca pg.code.length cc) ∧ jb < w.heap.size :=
  ⟨cell_blk h.h rfl, cell_blk h.h rfl, cell_blk h.h rfl, cell_blk h.h rfl, cell_blk h.h rfl, heap_lt' h.h⟩
def fitsI (dfs : List Bool) (np : Nat) (v n : Int) : Bool :=
  if v = 0 then n == 0 else if v = 2 then inI n 1 else if v = 3 then decide (0 ≤ n) else if v = 4 then decide (2 ≤ n) else if v = 5 then inI n ((dfs.length : Int) - 1) && dfs.getD n.toNat false else if v = 6 then n == 1 || n == 2 else if v = 7 then binI n else if v = 8 then inI n ((np : Int) - 1) else true
set_option maxRecDepth 100000 in
set_option maxHeartbeats 4000000 in
theorem fits_any (w : World) {jb B pc dc cc : Nat} {u : CUn} {pa da ca : Option Addr} {dfs : List Bool} {pg : CPg} (h : JgM w jb B u pa pc da dc dfs pg ca cc) (v n : Int) : Calls Tryd.prog 71 #[.pointer (some ⟨jb, 0, none⟩), .int .i64 v, .int .i64 n] w fun e w' => e = .returned (.bool (fitsI dfs u.progs.length v n)) ∧ w = w' := by
  have HW : Bx (∀ m, _) := ⟨fun m => within_any n m w⟩
  have HB : Bx _ := ⟨isBinary_any n w⟩
  obtain ⟨c0, c1, _, _, _, hjl⟩ := h.cells
  have hpm := h.pr.max
  have hpc := h.pr.cap
  have hdm := h.df.max
  have hdc := h.df.cap
  have HD : Bx _ := ⟨h.df.at_⟩
  unfold maxLen at hpm
  clear h
  unfold fitsI
  by_cases h0 : v = 0
  · subst h0
    simp only [if_true]
    go_enter Tryd.func71, Tryd.ntmps71
    go_wp2
    go_ret
    exact ⟨rfl, rfl⟩
  rw [if_neg h0]
  by_cases h2 : v = 2
  · subst h2
    simp only [if_true]
    clear h0
    go_enter Tryd.func71, Tryd.ntmps71
    go_wp2_with (first
      | (go_at_call 49; refine (HW.out _).mono ?_; rintro e w1 ⟨rfl, rfl⟩))
    go_ret
    exact ⟨rfl, rfl⟩
  rw [if_neg h2]
  by_cases h3 : v = 3
  · subst h3
    simp only [if_true]
    clear h0 h2
    go_enter Tryd.func71, Tryd.ntmps71
    go_wp2
    go_ret
    exact ⟨rfl, rfl⟩
  rw [if_neg h3]
  by_cases h4 : v = 4
  · subst h4
    simp only [if_true]
    clear h0 h2 h3
    go_enter Tryd.func71, Tryd.ntmps71
    go_wp2
    go_ret
    exact ⟨rfl, rfl⟩
  rw [if_neg h4]
  by_cases h5 : v = 5
  · subst h5
    simp only [if_true]
    clear h0 h2 h3 h4
    have hwr : IntKind.i64.wrap ((dfs.length : Int) - 1) = (dfs.length : Int) - 1 := by rw [IntKind.wrap_i64]; omega
    have HWL := HW.out ((dfs.length : Int) - 1)
    cases hin : inI n ((dfs.length : Int) - 1) with
    | false =>
      rw [hin] at HWL
      simp only [Bool.false_and]
      clear hin
      go_enter Tryd.func71, Tryd.ntmps71
      go_wp2_with (first
        | (go_at_call 49; refine HWL.mono ?_; rintro e w1 ⟨rfl, rfl⟩))
      go_ret
      exact ⟨rfl, rfl⟩
    | true =>
      rw [hin] at HWL
      have hin2 : 0 ≤ n ∧ n ≤ (dfs.length : Int) - 1 := by simpa [inI] using hin
      obtain ⟨m, rfl⟩ : ∃ m : Nat, n = m := ⟨n.toNat, by omega⟩
      have hml : m < dfs.length := by omega
      obtain ⟨b, o, rfl, hb, hc⟩ := HD.out m hml
      have hmI : (m : Int) < (dfs.length : Int) := by omega
      have e1 : dfs.getD ((m : Int)).toNat false = dfs[m] := by
        rw [show ((m : Int)).toNat = m by omega, List.getD_eq_getElem?_getD, List.getElem?_eq_getElem hml]
        rfl
      rw [e1]
      simp only [Bool.true_and]
      generalize dfs[m] = y at *
      clear hin hin2 e1 HD
      go_enter Tryd.func71, Tryd.ntmps71
      go_wp2_with (first
        | (go_at_call 49; refine HWL.mono ?_; rintro e w1 ⟨rfl, rfl⟩))
      go_ret
      exact ⟨rfl, rfl⟩
  rw [if_neg h5]
  by_cases h6 : v = 6
  · subst h6
    simp only [if_true]
    clear h0 h2 h3 h4 h5
    cases h1 : (n == 1) with
    | true =>
      go_enter Tryd.func71, Tryd.ntmps71
      go_wp2
      go_ret
      exact ⟨ret_bool (by simp), rfl⟩
    | false =>
      go_enter Tryd.func71, Tryd.ntmps71
      go_wp2
      go_ret
      exact ⟨ret_bool (by simp), rfl⟩
  rw [if_neg h6]
  by_cases h7 : v = 7
  · subst h7
    simp only [if_true]
    clear h0 h2 h3 h4 h5 h6
    go_enter Tryd.func71, Tryd.ntmps71
    go_wp2_with (first
      | (go_at_call 85; refine HB.out.mono ?_; rintro e w1 ⟨rfl, rfl⟩))
    go_ret
    exact ⟨rfl, rfl⟩
  rw [if_neg h7]
  by_cases h8 : v = 8
  · subst h8
    simp only [if_true]
    clear h0 h2 h3 h4 h5 h6 h7
    have hwr : IntKind.i64.wrap ((u.progs.length : Int) - 1) = (u.progs.length : Int) - 1 := by rw [IntKind.wrap_i64]; omega
    go_enter Tryd.func71, Tryd.ntmps71
    go_wp2_with (first
      | (go_at_call 49; refine (HW.out _).mono ?_; rintro e w1 ⟨rfl, rfl⟩))
    go_ret
    exact ⟨rfl, rfl⟩
  rw [if_neg h8]
  have b0 : (v == 0) = false := by simp [h0]
  have b2 : (v == 2) = false := by simp [h2]
  have b3 : (v == 3) = false := by simp [h3]
  have b4 : (v == 4) = false := by simp [h4]
  have b5 : (v == 5) = false := by simp [h5]
  have b6 : (v == 6) = false := by simp [h6]
  have b7 : (v == 7) = false := by simp [h7]
  have b8 : (v == 8) = false := by simp [h8]
  clear h0 h2 h3 h4 h5 h6 h7 h8
  go_enter Tryd.func71, Tryd.ntmps71
  go_wp2
  go_ret
  exact ⟨rfl, rfl⟩
def slotI (pg : CPg) (v n : Int) : Bool := if v = 12 then inI n (pg.slots - 1) else if v = 13 then inI n (pg.caps - 1) else true
set_option maxRecDepth 100000 in
set_option maxHeartbeats 4000000 in
theorem hasSlot_any (w : World) {jb B pc dc cc : Nat} {u : CUn} {pa da ca : Option Addr} {dfs : List Bool} {pg : CPg} (h : JgM w jb B u pa pc da dc dfs pg ca cc) (h1 : 0 ≤ pg.slots ∧ pg.slots ≤ 65536) (h2 : 0 ≤ pg.caps ∧ pg.caps ≤ 65536) (v n : Int) : Calls Tryd.prog 51 #[.pointer (some ⟨jb, 0, none⟩), .int .i64 v, .int .i64 n] w fun e w' => e = .returned (.bool (slotI pg v n)) ∧ w = w' := by
  have HW : Bx (∀ m, _) := ⟨fun m => within_any n m w⟩
  obtain ⟨_, _, c3, c4, _, hjl⟩ := h.cells
  have w1 : IntKind.i64.wrap (pg.slots - 1) = pg.slots - 1 := by rw [IntKind.wrap_i64]; omega
  have w2 : IntKind.i64.wrap (pg.caps - 1) = pg.caps - 1 := by rw [IntKind.wrap_i64]; omega
  clear h
  unfold slotI
  by_cases h3 : v = 12
  · subst h3
    simp only [if_true]
    go_enter Tryd.func51, Tryd.ntmps51
    go_wp2_with (first
      | (go_at_call 49; refine (HW.out _).mono ?_; rintro e w1 ⟨rfl, rfl⟩))
    go_ret
    exact ⟨rfl, rfl⟩
  rw [if_neg h3]
  by_cases h4 : v = 13
  · subst h4
    simp only [if_true]
    clear h3
    go_enter Tryd.func51, Tryd.ntmps51
    go_wp2_with (first
      | (go_at_call 49; refine (HW.out _).mono ?_; rintro e w1 ⟨rfl, rfl⟩))
    go_ret
    exact ⟨rfl, rfl⟩
  rw [if_neg h4]
  have b3 : (v == 12) = false := by simp [h3]
  have b4 : (v == 13) = false := by simp [h4]
  clear h3 h4
  go_enter Tryd.func51, Tryd.ntmps51
  go_wp2
  go_ret
  exact ⟨rfl, rfl⟩
def aheadI (cl : Nat) (i t : Int) : Bool := decide (i < t) && decide (t < cl)
set_option maxRecDepth 100000 in
set_option maxHeartbeats 4000000 in
theorem isAhead_any (w : World) {jb B pc dc cc : Nat} {u : CUn} {pa da ca : Option Addr} {dfs : List Bool} {pg : CPg} (h : JgM w jb B u pa pc da dc dfs pg ca cc) (i t : Int) : Calls Tryd.prog 73 #[.pointer (some ⟨jb, 0, none⟩), .int .i64 i, .int .i64 t] w fun e w' => e = .returned (.bool (aheadI pg.code.length i t)) ∧ w = w' := by
  obtain ⟨_, _, _, _, c6, hjl⟩ := h.cells
  clear h
  unfold aheadI
  by_cases h1 : i < t
  · have hb : decide (i < t) = true := decide_eq_true h1
    rw [hb]
    clear h1
    go_enter Tryd.func73, Tryd.ntmps73
    go_wp2
    go_ret
    exact ⟨ret_bool (by simp), rfl⟩
  · have hb : decide (i < t) = false := decide_eq_false h1
    rw [hb]
    clear h1
    go_enter Tryd.func73, Tryd.ntmps73
    go_wp2
    go_ret
    exact ⟨ret_bool (by simp), rfl⟩
def tgGo (cl : Nat) (i : Int) : List Int → Bool
  | _ :: t :: r => aheadI cl i t && tgGo cl i r
  | _ => true
theorem tgGo_at {cl : Nat} {i : Int} {l : List Int} {k : Nat} (h : k + 1 < l.length) : tgGo cl i (l.drop k) = (aheadI cl i l[k + 1] && tgGo cl i (l.drop (k + 2))) := by
  rw [List.drop_eq_getElem_cons (show k < l.length by omega), List.drop_eq_getElem_cons h, tgGo]
theorem tgGo_end {cl : Nat} {i : Int} {l : List Int} {k : Nat} (h : ¬ k + 1 < l.length) : tgGo cl i (l.drop k) = true := by
  by_cases h2 : k < l.length
  · rw [List.drop_eq_getElem_cons h2, List.drop_eq_nil_of_le (by omega), tgGo]
    intro a b c hh
    cases hh
  · rw [List.drop_eq_nil_of_le (by omega), tgGo]
    intro a b c hh
    cases hh
set_option maxRecDepth 100000 in
set_option maxHeartbeats 4000000 in
theorem haveTargets_any (w : World) {jb B pc dc cc : Nat} {u : CUn} {pa da ca : Option Addr} {dfs : List Bool} {pg : CPg} (h : JgM w jb B u pa pc da dc dfs pg ca cc) (i : Int) (a : Option Addr) (cp : Nat) (ks : List Int) (hk : IntsV w B a cp ks) (hlen : ks.length ≤ 281474976710656) : Calls Tryd.prog 74 #[.pointer (some ⟨jb, 0, none⟩), .int .i64 i, .slice a ks.length cp] w fun e w' => e = .returned (.bool (tgGo pg.code.length i ks)) ∧ w = w' := by
  have HA : Bx (∀ t, _) := ⟨fun t => isAhead_any w h i t⟩
  have HG : Bx (tgGo pg.code.length i (ks.drop 0) = tgGo pg.code.length i ks) := ⟨by rw [List.drop_zero]⟩
  have HK : Bx _ := ⟨hk⟩
  have hcp := hk.cap
  clear hk h
  generalize tgGo pg.code.length i ks = r at *
  go_enter Tryd.func74, Tryd.ntmps74
  go_wp2
  go_loopg [7] (ks.length + 2) (fun f v7 wr => ∃ k : Nat, f = ks.length + 2 - k ∧ k ≤ ks.length + 1 ∧ v7 = .int .i64 ((k : Int) + 1) ∧ Bx (tgGo pg.code.length i (ks.drop k) = r) ∧ w = wr)
  case atStart => exact ⟨0, by simp, Nat.zero_le _, rfl, HG, rfl⟩
  case round =>
    obtain ⟨k, hf, hk, rfl, HR, rfl⟩ := hrel
    by_cases hlt : k + 1 < ks.length
    · obtain ⟨b, o, rfl, hb, hc⟩ := HK.out.at_ (by omega)
      have c0 := hc (k + 1) hlt
      have HR2 : Bx _ := ⟨(tgGo_at hlt).symm.trans HR.out⟩
      have hkI : (k : Int) + 1 < (ks.length : Int) := by omega
      have hk0 : (0 : Int) ≤ (k : Int) + 1 := by omega
      have hkN : ((k : Int) + 1).toNat = k + 1 := by omega
      have hwr : IntKind.i64.wrap ((k : Int) + 1 + 2) = (k : Int) + 1 + 2 := by rw [IntKind.wrap_i64]; omega
      clear hc HR HK
      generalize ks[k + 1] = y at *
      cases hy : aheadI pg.code.length i y with
      | true =>
        have hr := HR2.out
        rw [hy, Bool.true_and] at hr
        have HR3 : Bx _ := ⟨hr⟩
        have HWY := HA.out y
        rw [hy] at HWY
        clear hr HR2 hy HA
        go_wp2_with (first
          | (go_at_call 73; refine HWY.mono ?_; rintro e w1 ⟨rfl, rfl⟩))
        go_roundg (ks.length + 2 - (k + 2))
        case measure => omega
        case rel => exact ⟨k + 2, rfl, by omega, by simp; omega, HR3, rfl⟩
      | false =>
        have hr := HR2.out
        rw [hy, Bool.false_and] at hr
        subst hr
        have HWY := HA.out y
        rw [hy] at HWY
        clear HR2 hy HA
        go_wp2_with (first
          | (go_at_call 73; refine HWY.mono ?_; rintro e w1 ⟨rfl, rfl⟩))
        go_ret
        exact ⟨rfl, rfl⟩
    · have hr := HR.out
      rw [tgGo_end hlt] at hr
      subst hr
      have hge : decide ((k : Int) + 1 < (ks.length : Int)) = false := decide_eq_false (by omega)
      clear HR HK HA
      go_wp2
      go_ret
      exact ⟨rfl, rfl⟩
end Go.Proofs.YtadmpgegolmkgaaDoor
namespace Go.Proofs.YtadmpgegolmkgaaDoor
open Go.RowKit
set_option linter.unusedVariables false
set_option linter.unusedSimpArgs false

abbrev shV (s : Int × Int × Int) : Value := .agg #[.int .i64 s.1, .int .i64 s.2.1, .int .i64 s.2.2]
def targetsI (cl : Nat) (s : Int × Int × Int) (i : Int) (x : CIn) : Bool := if s.1 = 14 then aheadI cl i x.a else if s.1 = 15 then inI x.a i else if s.2.2 = 11 then tgGo cl i x.list else true
/-- two copies that a method of the judge makes of its arguments -/
structure J2 (w : World) (H : Nat) (s : Int × Int × Int) (x : CIn) (ka : Option Addr) (kc : Nat) (X : World) : Prop where
  bel : Below w.heap.size w X
  s0 : X.cell? ⟨H, 0, none⟩ = some (.int .i64 s.1)
  s1 : X.cell? ⟨H, 1, none⟩ = some (.int .i64 s.2.1)
  s2 : X.cell? ⟨H, 2, none⟩ = some (.int .i64 s.2.2)
  i0 : X.cell? ⟨H + 1, 0, none⟩ = some (.int .i64 x.op)
  i1 : X.cell? ⟨H + 1, 1, none⟩ = some (.int .i64 x.a)
  i2 : X.cell? ⟨H + 1, 2, none⟩ = some (.int .i64 x.b)
  i3 : X.cell? ⟨H + 1, 3, none⟩ = some (.slice ka x.list.length kc)
theorem j2_of {w : World} {H : Nat} (hH : w.heap.size = H) (s : Int × Int × Int) (x : CIn) (ka : Option Addr) (kc : Nat) : J2 w H s x ka kc ((w.alloc (.cells #[.int .i64 s.1, .int .i64 s.2.1, .int .i64 s.2.2] 106)).alloc (.cells #[.int .i64 x.op, .int .i64 x.a, .int .i64 x.b, .slice ka x.list.length kc] 43)) := by
  obtain ⟨Y, hY⟩ : ∃ Y, w.alloc (.cells #[.int .i64 s.1, .int .i64 s.2.1, .int .i64 s.2.2] 106) = Y := ⟨_, rfl⟩
  have b1 : Below w.heap.size w Y := by rw [← hY]; exact below1 w _
  have z1 : Y.heap.size = H + 1 := by rw [← hY]; simp [hH]
  have q1 : Y.heap[H]? = some (.cells #[.int .i64 s.1, .int .i64 s.2.1, .int .i64 s.2.2] 106 (0, 0)) := by rw [← hY, ← hH]; exact heap_alloc_new w _
  rw [hY]
  have b2 := below1 Y (.cells #[.int .i64 x.op, .int .i64 x.a, .int .i64 x.b, .slice ka x.list.length kc] 43)
  have q2 := (b2.block H (by omega)).trans q1
  have q3 := heap_newH Y (.cells #[.int .i64 x.op, .int .i64 x.a, .int .i64 x.b, .slice ka x.list.length kc] 43) _ z1
  exact ⟨b1.trans (b2.mono (by omega)), cell_blk q2 rfl, cell_blk q2 rfl, cell_blk q2 rfl, cell_blk q3 rfl, cell_blk q3 rfl, cell_blk q3 rfl, cell_blk q3 rfl⟩
set_option maxRecDepth 100000 in
set_option maxHeartbeats 4000000 in
theorem hasTargets_any (w : World) {jb B pc dc cc : Nat} {u : CUn} {pa da ca : Option Addr} {dfs : List Bool} {pg : CPg} (h : JgM w jb B u pa pc da dc dfs pg ca cc) (s : Int × Int × Int) (i : Int) (x : CIn) (ka : Option Addr) (kc : Nat) (hk : IntsV w B ka kc x.list) (hlen : x.list.length ≤ 281474976710656) : Calls Tryd.prog 52 #[.pointer (some ⟨jb, 0, none⟩), shV s, .int .i64 i, insV x ka kc] w fun e w' => e = .returned (.bool (targetsI pg.code.length s i x)) ∧ Bx (Below w.heap.size w w') := by
  obtain ⟨H, hH⟩ : ∃ H, w.heap.size = H := ⟨_, rfl⟩
  have hJ := j2_of hH s x ka kc
  have hjl : jb < H := hH ▸ heap_lt' h.h
  have HA : Bx (∀ X, Below w.heap.size w X → _) := ⟨fun X hX => isAhead_any X (h.below hX) i x.a⟩
  have HT : Bx (∀ X, Below w.heap.size w X → _) := ⟨fun X hX => haveTargets_any X (h.below hX) i ka kc x.list (hk.below (hX.mono h.bw)) hlen⟩
  have HW : Bx (∀ X, _) := ⟨fun X => within_any x.a i X⟩
  have HF : Bx (Below w.heap.size w _) := ⟨hJ.bel⟩
  obtain ⟨_, s0, s1, s2, i0, i1, i2, i3⟩ := hJ
  clear h hk
  unfold targetsI shV insV
  obtain ⟨v0, v1, v2⟩ := s
  simp only at *
  by_cases h1 : v0 = 14
  · subst h1
    simp only [if_true]
    go_enter Tryd.func52, Tryd.ntmps52
    go_wp2_with (first
      | (go_at_call 73; refine (HA.out _ HF.out).mono ?_; rintro e w1 ⟨rfl, rfl⟩))
    go_ret
    exact ⟨rfl, HF⟩
  rw [if_neg h1]
  have b1 : (v0 == 14) = false := by simp [h1]
  by_cases h2 : v0 = 15
  · subst h2
    simp only [if_true]
    clear h1 b1
    go_enter Tryd.func52, Tryd.ntmps52
    go_wp2_with (first
      | (go_at_call 49; refine (HW.out _).mono ?_; rintro e w1 ⟨rfl, rfl⟩))
    go_ret
    exact ⟨rfl, HF⟩
  rw [if_neg h2]
  have b2 : (v0 == 15) = false := by simp [h2]
  by_cases h3 : v2 = 11
  · subst h3
    simp only [if_true]
    clear h1 h2
    go_enter Tryd.func52, Tryd.ntmps52
    go_wp2_with (first
      | (go_at_call 74; refine (HT.out _ HF.out).mono ?_; rintro e w1 ⟨rfl, rfl⟩))
    go_ret
    exact ⟨rfl, HF⟩
  rw [if_neg h3]
  have b3 : (v2 == 11) = false := by simp [h3]
  clear h1 h2 h3
  go_enter Tryd.func52, Tryd.ntmps52
  go_wp2
  go_ret
  exact ⟨rfl, HF⟩
def pgD : CPg := ⟨0, 0, 0, false, []⟩
def formedI (u : CUn) (dfs : List Bool) (s : Int × Int × Int) (x : CIn) : Bool := fitsI dfs u.progs.length s.1 x.a && (listI s.2.2 x.list && if s.2.1 = 9 then x.b == (u.progs.getD x.a.toNat pgD).caps else fitsI dfs u.progs.length s.2.1 x.b)
set_option maxRecDepth 100000 in
set_option maxHeartbeats 4000000 in
theorem isFormed_any (w : World) {jb B pc dc cc : Nat} {u : CUn} {pa da ca : Option Addr} {dfs : List Bool} {pg : CPg} (h : JgM w jb B u pa pc da dc dfs pg ca cc) (s : Int × Int × Int) (h9 : s.2.1 = 9 → s.1 = 8) (x : CIn) (ka : Option Addr) (kc : Nat) (hk : IntsV w B ka kc x.list) (hlen : x.list.length ≤ 281474976710656) : Calls Tryd.prog 50 #[.pointer (some ⟨jb, 0, none⟩), shV s, insV x ka kc] w fun e w' => e = .returned (.bool (formedI u dfs s x)) ∧ Bx (Below w.heap.size w w') := by
  obtain ⟨H, hH⟩ : ∃ H, w.heap.size = H := ⟨_, rfl⟩
  have hJ := j2_of hH s x ka kc
  have hjl : jb < H := hH ▸ heap_lt' h.h
  have H1 : Bx (∀ X, Below w.heap.size w X → _) := ⟨fun X hX => fits_any X (h.below hX) s.1 x.a⟩
  have H2 : Bx (∀ X, Below w.heap.size w X → _) := ⟨fun X hX => fits_any X (h.below hX) s.2.1 x.b⟩
  have HL : Bx (∀ X, Below w.heap.size w X → _) := ⟨fun X hX => fitsList_any X B ka kc x.list (hk.below (hX.mono h.bw)) hlen s.2.2⟩
  have HF : Bx (Below w.heap.size w _) := ⟨hJ.bel⟩
  have HJC : Bx (∀ X, Below w.heap.size w X → X.cell? ⟨jb, 0, none⟩ = some (.slice pa u.progs.length pc)) := ⟨fun X hX => (h.below hX).cells.1⟩
  have hpcap := h.pr.cap
  have HPG : Bx (∀ m (hm : m < u.progs.length), ∃ b o, pa = some ⟨b, o, none⟩ ∧ b < w.heap.size ∧ ∀ X, Below w.heap.size w X → X.cell? ⟨b, o + m * 5 + 2, none⟩ = some (.int .i64 u.progs[m].caps)) := ⟨fun m hm => by
    obtain ⟨b, o, e, hb, hj⟩ := h.pr.at_ (by omega)
    obtain ⟨_, _, _, _, c2, _⟩ := (hj m hm).ex
    have hbw := h.bw
    exact ⟨b, o, e, by omega, fun X hX => (hX.cell (p := ⟨b, _, none⟩) (by show b < w.heap.size; omega)).trans c2⟩⟩
  have HFI : Bx (fitsI dfs u.progs.length s.1 x.a = true → s.2.1 = 9 → ∃ m : Nat, x.a = m ∧ m < u.progs.length) := ⟨fun e e9 => by
    rw [h9 e9] at e
    simp [fitsI, inI] at e
    exact ⟨x.a.toNat, by omega, by omega⟩⟩
  obtain ⟨_, s0, s1, s2, i0, i1, i2, i3⟩ := hJ
  clear h hk h9
  unfold formedI shV insV
  obtain ⟨v0, v1, v2⟩ := s
  simp only at *
  cases hf : fitsI dfs u.progs.length v0 x.a with
  | false =>
    rw [hf] at H1
    simp only [Bool.false_and]
    clear H2 hf HFI
    go_enter Tryd.func50, Tryd.ntmps50
    go_wp2_with (first
      | (go_at_call 71; refine (H1.out _ HF.out).mono ?_; rintro e w1 ⟨rfl, rfl⟩))
    go_ret
    exact ⟨rfl, HF⟩
  | true =>
    rw [hf] at H1
    have HFI2 := HFI.out hf
    simp only [Bool.true_and]
    clear hf HFI
    cases hl : listI v2 x.list with
    | false =>
      rw [hl] at HL
      simp only [Bool.false_and]
      clear hl H2 HFI2
      go_enter Tryd.func50, Tryd.ntmps50
      go_wp2_with (first
        | (go_at_call 71; refine (H1.out _ HF.out).mono ?_; rintro e w1 ⟨rfl, rfl⟩)
        | (go_at_call 72; refine (HL.out _ HF.out).mono ?_; rintro e w1 ⟨rfl, rfl⟩))
      go_ret
      exact ⟨rfl, HF⟩
    | true =>
      rw [hl] at HL
      simp only [Bool.true_and]
      clear hl
      by_cases h9 : v1 = 9
      · rw [if_pos h9]
        obtain ⟨m, hm, hml⟩ := HFI2 h9
        obtain ⟨b, o, rfl, hb, hc⟩ := HPG.out m hml
        have e1 : u.progs.getD x.a.toNat pgD = u.progs[m] := by
          rw [hm, show ((m : Int)).toNat = m by omega, List.getD_eq_getElem?_getD, List.getElem?_eq_getElem hml]
          rfl
        rw [e1]
        have cq := hc _ HF.out
        have cj := HJC.out _ HF.out
        have hmI : (m : Int) < (u.progs.length : Int) := by omega
        rw [hm] at H1 i1 HF cq cj s0 s1 s2 i0 i2 i3 ⊢
        generalize u.progs[m].caps = y at *
        subst h9
        clear HFI2 H2 hm HPG hc HJC e1
        go_enter Tryd.func50, Tryd.ntmps50
        go_wp2_with (first
          | (go_at_call 71; refine (H1.out _ HF.out).mono ?_; rintro e w1 ⟨rfl, rfl⟩)
          | (go_at_call 72; refine (HL.out _ HF.out).mono ?_; rintro e w1 ⟨rfl, rfl⟩))
        go_quiet (fail)
        go_wp2
        go_ret
        exact ⟨rfl, ⟨below_drewN HF.out _⟩⟩
      · rw [if_neg h9]
        have b9 : (v1 == 9) = false := by simp [h9]
        clear h9 HFI2 HPG HJC
        go_enter Tryd.func50, Tryd.ntmps50
        go_wp2_with (first
          | (go_at_call 72; refine (HL.out _ HF.out).mono ?_; rintro e w1 ⟨rfl, rfl⟩; clear H1 HL)
          | (go_at_call 71; refine (H1.out _ HF.out).mono ?_; rintro e w1 ⟨rfl, rfl⟩)
          | (go_at_call 71; refine (H2.out _ HF.out).mono ?_; rintro e w1 ⟨rfl, rfl⟩))
        go_ret
        exact ⟨rfl, HF⟩
end Go.Proofs.YtadmpgegolmkgaaDoor
