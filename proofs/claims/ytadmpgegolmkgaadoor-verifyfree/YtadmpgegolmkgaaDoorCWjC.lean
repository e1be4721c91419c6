import Derived.Test.YtadmpgegolmkgaaDoorCWjA
import Derived.Test.YtadmpgegolmkgaaDoorCWsN
namespace Go.Proofs.YtadmpgegolmkgaaDoor
open Go.RowKit
set_option linter.unusedVariables false
set_option linter.unusedSimpArgs false

abbrev shV (s : Int × Int × Int) : Value := .agg #[.int .i64 s.1, .int .i64 s.2.1, .int .i64 s.2.2]
def targetsI (cl : Nat) (s : Int × Int × Int) (i : Int) (x : CIn) : Bool := if s.1 = 14 then aheadI cl i x.a else if s.1 = 15 then inI x.a i else if s.2.2 = 11 then tgGo cl i x.list else true
/-- two copies that a method of the judge makes of its arguments -/
structure J2 (w : World) (H : Nat) (s : Int × Int × Int) (x : CIn) (ka : Option Addr) (kc : Nat) (X : World) : Prop where
  bel : Below w.heap.size w X
  s0 : X.cell? ⟨H, 0, none⟩ = some (.int .i64 s.1)
  s1 : X.cell? ⟨H, 1, none⟩ = some (.int .i64 s.2.1)
  s2 : X.cell? ⟨H, 2, none⟩ = some (.int .i64 s.2.2)
  i0 : X.cell? ⟨H + 1, 0, none⟩ = some (.int .i64 x.op)
  i1 : X.cell? ⟨H + 1, 1, none⟩ = some (.int .i64 x.a)
  i2 : X.cell? ⟨H + 1, 2, none⟩ = some (.int .i64 x.b)
  i3 : X.cell? ⟨H + 1, 3, none⟩ = some (.slice ka x.list.length kc)
theorem j2_of {w : World} {H : Nat} (hH : w.heap.size = H) (s : Int × Int × Int) (x : CIn) (ka : Option Addr) (kc : Nat) : J2 w H s x ka kc ((w.alloc (.cells #[.int .i64 s.1, .int .i64 s.2.1, .int .i64 s.2.2] 106)).alloc (.cells #[.int .i64 x.op, .int .i64 x.a, .int .i64 x.b, .slice ka x.list.length kc] 43)) := by
  obtain ⟨Y, hY⟩ : ∃ Y, w.alloc (.cells #[.int .i64 s.1, .int .i64 s.2.1, .int .i64 s.2.2] 106) = Y := ⟨_, rfl⟩
  have b1 : Below w.heap.size w Y := by rw [← hY]; exact below1 w _
  have z1 : Y.heap.size = H + 1 := by rw [← hY]; simp [hH]
  have q1 : Y.heap[H]? = some (.cells #[.int .i64 s.1, .int .i64 s.2.1, .int .i64 s.2.2] 106 (0, 0)) := by rw [← hY, ← hH]; exact heap_alloc_new w _
  rw [hY]
  have b2 := below1 Y (.cells #[.int .i64 x.op, .int .i64 x.a, .int .i64 x.b, .slice ka x.list.length kc] 43)
  have q2 := (b2.block H (by omega)).trans q1
  have q3 := heap_newH Y (.cells #[.int .i64 x.op, .int .i64 x.a, .int .i64 x.b, .slice ka x.list.length kc] 43) _ z1
  exact ⟨b1.trans (b2.mono (by omega)), cell_blk q2 rfl, cell_blk q2 rfl, cell_blk q2 rfl, cell_blk q3 rfl, cell_blk q3 rfl, cell_blk q3 rfl, cell_blk q3 rfl⟩
set_option maxRecDepth 100000 in
set_option maxHeartbeats 4000000 in
theorem hasTargets_any (w : World) {jb B pc dc cc : Nat} {u : CUn} {pa da ca : Option Addr} {dfs : List Bool} {pg : CPg} (h : JgM w jb B u pa pc da dc dfs pg ca cc) (s : Int × Int × Int) (i : Int) (x : CIn) (ka : Option Addr) (kc : Nat) (hk : IntsV w B ka kc x.list) (hlen : x.list.length ≤ 281474976710656) : Calls Tryd.prog 52 #[.pointer (some ⟨jb, 0, none⟩), shV s, .int .i64 i, insV x ka kc] w fun e w' => e = .returned (.bool (targetsI pg.code.length s i x)) ∧ Bx (Below w.heap.size w w') := by
  obtain ⟨H, hH⟩ : ∃ H, w.heap.size = H := ⟨_, rfl⟩
  have hJ := j2_of hH s x ka kc
  have hjl : jb < H := hH ▸ heap_lt' h.h
  have HA : Bx (∀ X, Below w.heap.size w X → _) := ⟨fun X hX => isAhead_any X (h.below hX) i x.a⟩
  have HT : Bx (∀ X, Below w.heap.size w X → _) := ⟨fun X hX => haveTargets_any X (h.below hX) i ka kc x.list (hk.below (hX.mono h.bw)) hlen⟩
  have HW : Bx (∀ X, _) := ⟨fun X => within_any x.a i X⟩
  have HF : Bx (Below w.heap.size w _) := ⟨hJ.bel⟩
  obtain ⟨_, s0, s1, s2, i0, i1, i2, i3⟩ := hJ
  clear h hk
  unfold targetsI shV insV
  obtain ⟨v0, v1, v2⟩ := s
  simp only at *
  by_cases h1 : v0 = 14
  · subst h1
    simp only [if_true]
    go_enter Tryd.func52, Tryd.ntmps52
    go_wp2_with (first
      | (go_at_call 73; refine (HA.out _ HF.out).mono ?_; rintro e w1 ⟨rfl, rfl⟩))
    go_ret
    exact ⟨rfl, HF⟩
  rw [if_neg h1]
  have b1 : (v0 == 14) = false := by simp [h1]
  by_cases h2 : v0 = 15
  · subst h2
    simp only [if_true]
    clear h1 b1
    go_enter Tryd.func52, Tryd.ntmps52
    go_wp2_with (first
      | (go_at_call 49; refine (HW.out _).mono ?_; rintro e w1 ⟨rfl, rfl⟩))
    go_ret
    exact ⟨rfl, HF⟩
  rw [if_neg h2]
  have b2 : (v0 == 15) = false := by simp [h2]
  by_cases h3 : v2 = 11
  · subst h3
    simp only [if_true]
    clear h1 h2
    go_enter Tryd.func52, Tryd.ntmps52
    go_wp2_with (first
      | (go_at_call 74; refine (HT.out _ HF.out).mono ?_; rintro e w1 ⟨rfl, rfl⟩))
    go_ret
    exact ⟨rfl, HF⟩
  rw [if_neg h3]
  have b3 : (v2 == 11) = false := by simp [h3]
  clear h1 h2 h3
  go_enter Tryd.func52, Tryd.ntmps52
  go_wp2
  go_ret
  exact ⟨rfl, HF⟩
def pgD : CPg := ⟨0, 0, 0, false, []⟩
def formedI (u : CUn) (dfs : List Bool) (s : Int × Int × Int) (x : CIn) : Bool := fitsI dfs u.progs.length s.1 x.a && (listI s.2.2 x.list && if s.2.1 = 9 then x.b == (u.progs.getD x.a.toNat pgD).caps else fitsI dfs u.progs.length s.2.1 x.b)
set_option maxRecDepth 100000 in
set_option maxHeartbeats 4000000 in
theorem isFormed_any (w : World) {jb B pc dc cc : Nat} {u : CUn} {pa da ca : Option Addr} {dfs : List Bool} {pg : CPg} (h : JgM w jb B u pa pc da dc dfs pg ca cc) (s : Int × Int × Int) (h9 : s.2.1 = 9 → s.1 = 8) (x : CIn) (ka : Option Addr) (kc : Nat) (hk : IntsV w B ka kc x.list) (hlen : x.list.length ≤ 281474976710656) : Calls Tryd.prog 50 #[.pointer (some ⟨jb, 0, none⟩), shV s, insV x ka kc] w fun e w' => e = .returned (.bool (formedI u dfs s x)) ∧ Bx (Below w.heap.size w w') := by
  obtain ⟨H, hH⟩ : ∃ H, w.heap.size = H := ⟨_, rfl⟩
  have hJ := j2_of hH s x ka kc
  have hjl : jb < H := hH ▸ heap_lt' h.h
  have H1 : Bx (∀ X, Below w.heap.size w X → _) := ⟨fun X hX => fits_any X (h.below hX) s.1 x.a⟩
  have H2 : Bx (∀ X, Below w.heap.size w X → _) := ⟨fun X hX => fits_any X (h.below hX) s.2.1 x.b⟩
  have HL : Bx (∀ X, Below w.heap.size w X → _) := ⟨fun X hX => fitsList_any X B ka kc x.list (hk.below (hX.mono h.bw)) hlen s.2.2⟩
  have HF : Bx (Below w.heap.size w _) := ⟨hJ.bel⟩
  have HJC : Bx (∀ X, Below w.heap.size w X → X.cell? ⟨jb, 0, none⟩ = some (.slice pa u.progs.length pc)) := ⟨fun X hX => (h.below hX).cells.1⟩
  have hpcap := h.pr.cap
  have HPG : Bx (∀ m (hm : m < u.progs.length), ∃ b o, pa = some ⟨b, o, none⟩ ∧ b < w.heap.size ∧ ∀ X, Below w.heap.size w X → X.cell? ⟨b, o + m * 5 + 2, none⟩ = some (.int .i64 u.progs[m].caps)) := ⟨fun m hm => by
    obtain ⟨b, o, e, hb, hj⟩ := h.pr.at_ (by omega)
    obtain ⟨_, _, _, _, c2, _⟩ := (hj m hm).ex
    have hbw := h.bw
    exact ⟨b, o, e, by omega, fun X hX => (hX.cell (p := ⟨b, _, none⟩) (by show b < w.heap.size; omega)).trans c2⟩⟩
  have HFI : Bx (fitsI dfs u.progs.length s.1 x.a = true → s.2.1 = 9 → ∃ m : Nat, x.a = m ∧ m < u.progs.length) := ⟨fun e e9 => by
    rw [h9 e9] at e
    simp [fitsI, inI] at e
    exact ⟨x.a.toNat, by omega, by omega⟩⟩
  obtain ⟨_, s0, s1, s2, i0, i1, i2, i3⟩ := hJ
  clear h hk h9
  unfold formedI shV insV
  obtain ⟨v0, v1, v2⟩ := s
  simp only at *
  cases hf : fitsI dfs u.progs.length v0 x.a with
  | false =>
    rw [hf] at H1
    simp only [Bool.false_and]
    clear H2 hf HFI
    go_enter Tryd.func50, Tryd.ntmps50
    go_wp2_with (first
      | (go_at_call 71; refine (H1.out _ HF.out).mono ?_; rintro e w1 ⟨rfl, rfl⟩))
    go_ret
    exact ⟨rfl, HF⟩
  | true =>
    rw [hf] at H1
    have HFI2 := HFI.out hf
    simp only [Bool.true_and]
    clear hf HFI
    cases hl : listI v2 x.list with
    | false =>
      rw [hl] at HL
      simp only [Bool.false_and]
      clear hl H2 HFI2
      go_enter Tryd.func50, Tryd.ntmps50
      go_wp2_with (first
        | (go_at_call 71; refine (H1.out _ HF.out).mono ?_; rintro e w1 ⟨rfl, rfl⟩)
        | (go_at_call 72; refine (HL.out _ HF.out).mono ?_; rintro e w1 ⟨rfl, rfl⟩))
      go_ret
      exact ⟨rfl, HF⟩
    | true =>
      rw [hl] at HL
      simp only [Bool.true_and]
      clear hl
      by_cases h9 : v1 = 9
      · rw [if_pos h9]
        obtain ⟨m, hm, hml⟩ := HFI2 h9
        obtain ⟨b, o, rfl, hb, hc⟩ := HPG.out m hml
        have e1 : u.progs.getD x.a.toNat pgD = u.progs[m] := by
          rw [hm, show ((m : Int)).toNat = m by omega, List.getD_eq_getElem?_getD, List.getElem?_eq_getElem hml]
          rfl
        rw [e1]
        have cq := hc _ HF.out
        have cj := HJC.out _ HF.out
        have hmI : (m : Int) < (u.progs.length : Int) := by omega
        rw [hm] at H1 i1 HF cq cj s0 s1 s2 i0 i2 i3 ⊢
        generalize u.progs[m].caps = y at *
        subst h9
        clear HFI2 H2 hm HPG hc HJC e1
        go_enter Tryd.func50, Tryd.ntmps50
        go_wp2_with (first
          | (go_at_call 71; refine (H1.out _ HF.out).mono ?_; rintro e w1 ⟨rfl, rfl⟩)
          | (go_at_call 72; refine (HL.out _ HF.out).mono ?_; rintro e w1 ⟨rfl, rfl⟩))
        go_quiet (fail)
        go_wp2
        go_ret
        exact ⟨rfl, ⟨below_drewN HF.out _⟩⟩
      · rw [if_neg h9]
        have b9 : (v1 == 9) = false := by simp [h9]
        clear h9 HFI2 HPG HJC
        go_enter Tryd.func50, Tryd.ntmps50
        go_wp2_with (first
          | (go_at_call 72; refine (HL.out _ HF.out).mono ?_; rintro e w1 ⟨rfl, rfl⟩; clear H1 HL)
          | (go_at_call 71; refine (H1.out _ HF.out).mono ?_; rintro e w1 ⟨rfl, rfl⟩)
          | (go_at_call 71; refine (H2.out _ HF.out).mono ?_; rintro e w1 ⟨rfl, rfl⟩))
        go_ret
        exact ⟨rfl, HF⟩
end Go.Proofs.YtadmpgegolmkgaaDoor
namespace Go.Proofs.YtadmpgegolmkgaaDoor
open Go.RowKit
set_option linter.unusedVariables false
set_option linter.unusedSimpArgs false

def vsI (op : Int) : Int × Int × Int := vsT.getD op.toNat (0, 0, 0)
def wrongI (u : CUn) (dfs : List Bool) (pg : CPg) (i : Nat) (x : CIn) : Int :=
  if x.op < 1 ∨ 27 < x.op then 91
  else if formedI u dfs (vsI x.op) x = false then 91
  else if slotI pg (vsI x.op).1 x.a = false then 93
  else if targetsI pg.code.length (vsI x.op) i x = false then 92
  else 0
theorem vs_nine : ∀ k, k < 28 → (vsT.getD k (0, 0, 0)).2.1 = 9 → (vsT.getD k (0, 0, 0)).1 = 8 := by decide
/-- the copies that wrong makes -/
structure J3 (w : World) (H : Nat) (s : Int × Int × Int) (x : CIn) (ka : Option Addr) (kc : Nat) (X : World) : Prop where
  bel : Below w.heap.size w X
  ih : X.heap[H]? = some (.cells #[.int .i64 x.op, .int .i64 x.a, .int .i64 x.b, .slice ka x.list.length kc] 43 (0, 0))
  sh : X.heap[H + 1]? = some (.cells #[.int .i64 s.1, .int .i64 s.2.1, .int .i64 s.2.2] 106 (0, 0))
theorem J3.later {w : World} {H : Nat} {s : Int × Int × Int} {x : CIn} {ka : Option Addr} {kc : Nat} {X X' : World} (h : J3 w H s x ka kc X) (hb : Below X.heap.size X X') : J3 w H s x ka kc X' :=
  ⟨h.bel.trans (hb.mono h.bel.size), (hb.block _ (heap_lt' h.ih)).trans h.ih, (hb.block _ (heap_lt' h.sh)).trans h.sh⟩
theorem J3.cells {w : World} {H : Nat} {s : Int × Int × Int} {x : CIn} {ka : Option Addr} {kc : Nat} {X : World} (h : J3 w H s x ka kc X) : X.cell? ⟨H, 0, none⟩ = some (.int .i64 x.op) ∧ X.cell? ⟨H, 1, none⟩ = some (.int .i64 x.a) ∧ X.cell? ⟨H, 2, none⟩ = some (.int .i64 x.b) ∧ X.cell? ⟨H, 3, none⟩ = some (.slice ka x.list.length kc) ∧ X.cell? ⟨H + 1, 0, none⟩ = some (.int .i64 s.1) ∧ X.cell? ⟨H + 1, 1, none⟩ = some (.int .i64 s.2.1) ∧ X.cell? ⟨H + 1, 2, none⟩ = some (.int .i64 s.2.2) :=
  ⟨cell_blk h.ih rfl, cell_blk h.ih rfl, cell_blk h.ih rfl, cell_blk h.ih rfl, cell_blk h.sh rfl, cell_blk h.sh rfl, cell_blk h.sh rfl⟩
set_option maxRecDepth 100000 in
set_option maxHeartbeats 8000000 in
/-- **AN INSTRUCTION ON ITS OWN** -/
theorem wrong_any (w : World) (hV : VW w) {jb B pc dc cc : Nat} {u : CUn} {pa da ca : Option Addr} {dfs : List Bool} {pg : CPg} (h : JgM w jb B u pa pc da dc dfs pg ca cc) (h1 : 0 ≤ pg.slots ∧ pg.slots ≤ 65536) (h2 : 0 ≤ pg.caps ∧ pg.caps ≤ 65536) (i : Nat) (x : CIn) (ka : Option Addr) (kc : Nat) (hk : IntsV w B ka kc x.list) (hlen : x.list.length ≤ 281474976710656) : Calls Tryd.prog 36 #[.pointer (some ⟨jb, 0, none⟩), .int .i64 (i : Int), insV x ka kc] w fun e w' => e = .returned (.int .i64 (wrongI u dfs pg i x)) ∧ Bx (Below w.heap.size w w') := by
  obtain ⟨H, hH⟩ : ∃ H, w.heap.size = H := ⟨_, rfl⟩
  obtain ⟨w0, hw0⟩ : ∃ w0, w.alloc (.cells #[.int .i64 x.op, .int .i64 x.a, .int .i64 x.b, .slice ka x.list.length kc] 43) = w0 := ⟨_, rfl⟩
  have b0 : Below w.heap.size w w0 := by rw [← hw0]; exact below1 w _
  have z0 : w0.heap.size = H + 1 := by rw [← hw0]; simp [hH]
  have q0 : w0.heap[H]? = some (.cells #[.int .i64 x.op, .int .i64 x.a, .int .i64 x.b, .slice ka x.list.length kc] 43 (0, 0)) := by rw [← hw0]; exact heap_newH w _ _ hH
  have i0 : w0.cell? ⟨H, 0, none⟩ = some (.int .i64 x.op) := cell_blk q0 rfl
  have HF0 : Bx (Below w.heap.size w w0) := ⟨b0⟩
  unfold wrongI
  by_cases hop : x.op < 1 ∨ 27 < x.op
  · rw [if_pos hop]
    clear h hk hV
    unfold insV
    by_cases ho1 : x.op < 1
    · have e1 : decide (x.op < 1) = true := decide_eq_true ho1
      clear ho1 hop
      go_enter Tryd.func36, Tryd.ntmps36
      go_wp2
      go_ret
      exact ⟨rfl, HF0⟩
    · have e1 : decide (x.op < 1) = false := decide_eq_false ho1
      have e2 : decide (27 < x.op) = true := decide_eq_true (by omega)
      clear ho1 hop
      go_enter Tryd.func36, Tryd.ntmps36
      go_wp2
      go_ret
      exact ⟨rfl, HF0⟩
  rw [if_neg hop]
  obtain ⟨k, hk1⟩ : ∃ k : Nat, x.op = k := ⟨x.op.toNat, by omega⟩
  have hk28 : k < 28 := by omega
  have hvs : vsI x.op = vsT.getD k (0, 0, 0) := by unfold vsI; rw [hk1]; rfl
  have hs9 : (vsI x.op).2.1 = 9 → (vsI x.op).1 = 8 := by rw [hvs]; exact vs_nine k hk28
  have hgl := hV.ltv
  have hc0 : ∀ j, w0.cell? ⟨1, j, none⟩ = w.cell? ⟨1, j, none⟩ := fun j => b0.cell (p := ⟨1, j, none⟩) hgl
  have g0 := (hc0 _).trans (hV.v0 k hk28)
  have g1 := (hc0 _).trans (hV.v1 k hk28)
  have g2 := (hc0 _).trans (hV.v2 k hk28)
  rw [← hvs] at g0 g1 g2
  have HI : Bx (∀ X, J3 w H (vsI x.op) x ka kc X → Calls Tryd.prog 50 #[.pointer (some ⟨jb, 0, none⟩), shV (vsI x.op), insV x ka kc] X fun e w' => e = .returned (.bool (formedI u dfs (vsI x.op) x)) ∧ Bx (J3 w H (vsI x.op) x ka kc w')) := ⟨fun X hX => (isFormed_any X (h.below hX.bel) _ hs9 x ka kc (hk.below (hX.bel.mono h.bw)) hlen).mono fun e w' q => ⟨q.1, ⟨hX.later q.2.out⟩⟩⟩
  have HS : Bx (∀ X, J3 w H (vsI x.op) x ka kc X → Calls Tryd.prog 51 #[.pointer (some ⟨jb, 0, none⟩), .int .i64 (vsI x.op).1, .int .i64 x.a] X fun e w' => e = .returned (.bool (slotI pg (vsI x.op).1 x.a)) ∧ X = w') := ⟨fun X hX => hasSlot_any X (h.below hX.bel) h1 h2 _ _⟩
  have HT : Bx (∀ X, J3 w H (vsI x.op) x ka kc X → Calls Tryd.prog 52 #[.pointer (some ⟨jb, 0, none⟩), shV (vsI x.op), .int .i64 (i : Int), insV x ka kc] X fun e w' => e = .returned (.bool (targetsI pg.code.length (vsI x.op) i x)) ∧ Bx (J3 w H (vsI x.op) x ka kc w')) := ⟨fun X hX => (hasTargets_any X (h.below hX.bel) _ i x ka kc (hk.below (hX.bel.mono h.bw)) hlen).mono fun e w' q => ⟨q.1, ⟨hX.later q.2.out⟩⟩⟩
  have HJ : Bx (J3 w H (vsI x.op) x ka kc (w0.alloc (.cells #[.int .i64 (vsI x.op).1, .int .i64 (vsI x.op).2.1, .int .i64 (vsI x.op).2.2] 106))) := ⟨by
    have b1 := below1 w0 (.cells #[.int .i64 (vsI x.op).1, .int .i64 (vsI x.op).2.1, .int .i64 (vsI x.op).2.2] 106)
    exact ⟨b0.trans (b1.mono b0.size), (b1.block H (by omega)).trans q0, heap_newH w0 _ _ z0⟩⟩
  have e1 : decide ((k : Int) < 1) = false := decide_eq_false (by omega)
  have e2 : decide (27 < (k : Int)) = false := decide_eq_false (by omega)
  have e3 : (k : Int) < 28 := by omega
  clear h hk hV hvs hs9 hop hc0 q0 b0
  generalize vsI x.op = s at *
  unfold shV insV at HI HT
  unfold insV
  rw [hk1] at i0 HI HT ⊢
  have hglt : 1 < w0.heap.size := by omega
  rw [hk1] at hw0
  have HK : Bx (x.op = k) := ⟨hk1⟩
  clear hk1
  go_enter Tryd.func36, Tryd.ntmps36
  obtain ⟨y0, y1, y2, y3, y4, y5, y6⟩ := HJ.out.cells
  rw [HK.out] at y0
  cases hfo : formedI u dfs s x with
  | false =>
    rw [hfo] at HI
    rw [if_pos rfl]
    clear hfo HS HT
    go_wp2_with (first
      | (go_at_call 50; refine (HI.out _ HJ.out).mono ?_; rintro e w2 ⟨rfl, HJ2⟩; clear HJ HI y0 y1 y2 y3 y4 y5 y6; obtain ⟨y0, y1, y2, y3, y4, y5, y6⟩ := HJ2.out.cells; rw [HK.out] at y0))
    go_ret
    exact ⟨rfl, ⟨HJ2.out.bel⟩⟩
  | true =>
    rw [hfo] at HI
    rw [if_neg (by decide)]
    clear hfo
    cases hsl : slotI pg s.1 x.a with
    | false =>
      rw [hsl] at HS
      rw [if_pos rfl]
      clear hsl HT
      go_wp2_with (first
        | (go_at_call 50; refine (HI.out _ HJ.out).mono ?_; rintro e w2 ⟨rfl, HJ2⟩; clear HJ HI y0 y1 y2 y3 y4 y5 y6; obtain ⟨y0, y1, y2, y3, y4, y5, y6⟩ := HJ2.out.cells; rw [HK.out] at y0)
        | (go_at_call 51; refine (HS.out _ HJ2.out).mono ?_; rintro e w3 ⟨rfl, rfl⟩))
      go_ret
      exact ⟨rfl, ⟨HJ2.out.bel⟩⟩
    | true =>
      rw [hsl] at HS
      rw [if_neg (by decide)]
      clear hsl
      cases htg : targetsI pg.code.length s i x with
      | false =>
        rw [htg] at HT
        rw [if_pos rfl]
        clear htg
        go_wp2_with (first
          | (go_at_call 50; refine (HI.out _ HJ.out).mono ?_; rintro e w2 ⟨rfl, HJ2⟩; clear HJ HI y0 y1 y2 y3 y4 y5 y6; obtain ⟨y0, y1, y2, y3, y4, y5, y6⟩ := HJ2.out.cells; rw [HK.out] at y0)
          | (go_at_call 51; refine (HS.out _ HJ2.out).mono ?_; rintro e w3 ⟨rfl, rfl⟩)
          | (go_at_call 52; refine (HT.out _ HJ2.out).mono ?_; rintro e w4 ⟨rfl, HJ4⟩; clear HT))
        go_ret
        exact ⟨rfl, ⟨HJ4.out.bel⟩⟩
      | true =>
        rw [htg] at HT
        rw [if_neg (by decide)]
        clear htg
        go_wp2_with (first
          | (go_at_call 50; refine (HI.out _ HJ.out).mono ?_; rintro e w2 ⟨rfl, HJ2⟩; clear HJ HI y0 y1 y2 y3 y4 y5 y6; obtain ⟨y0, y1, y2, y3, y4, y5, y6⟩ := HJ2.out.cells; rw [HK.out] at y0)
          | (go_at_call 51; refine (HS.out _ HJ2.out).mono ?_; rintro e w3 ⟨rfl, rfl⟩)
          | (go_at_call 52; refine (HT.out _ HJ2.out).mono ?_; rintro e w4 ⟨rfl, HJ4⟩; clear HT))
        go_ret
        exact ⟨rfl, ⟨HJ4.out.bel⟩⟩
end Go.Proofs.YtadmpgegolmkgaaDoor
