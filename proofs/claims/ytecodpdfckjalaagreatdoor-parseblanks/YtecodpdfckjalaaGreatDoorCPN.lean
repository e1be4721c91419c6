import Derived.Test.YtecodpdfckjalaaGreatDoorCTLv
import Derived.Test.YtecodpdfckjalaaGreatDoorCRSel
import Derived.Test.YtecodpdfckjalaaGreatDoorCNext
import Derived.Defers
import Derived.Recover
namespace Go.Proofs.YtecodpdfckjalaaGreatDoor
set_option linter.unusedVariables false
set_option linter.unusedSimpArgs false

/-! ### the reader's fuel is enough -/
def rank : Rl → Nat
  | .typ => 1 | .chanT => 0 | .parted _ => 5 | .listed _ => 0 | .result => 0
  | .operands _ => 4 | .ops _ _ _ => 0 | .unary => 3 | .postf => 2 | .post _ => 1 | .primary => 1 | .prog => 0 | .param => 0
  | .block => 0 | .stmts => 6 | .stmt => 5 | .branch => 0 | .arms => 1 | .arm => 0 | .tyn => 0 | .types => 1 | .tops => 6 | .program => 7
def need : Rl → Nat
  | .typ => 1 | .chanT => 1 | .parted _ => 1 | .listed _ => 1 | .result => 0
  | .operands _ => 1 | .ops _ _ _ => 0 | .unary => 1 | .postf => 1 | .post _ => 0 | .primary => 1 | .prog => 1 | .param => 1
  | .block => 1 | .stmts => 1 | .stmt => 1 | .branch => 1 | .arms => 1 | .arm => 1 | .tyn => 1 | .types => 0 | .tops => 0 | .program => 0
def Wr : Rl → Prop
  | .operands n => 1 ≤ n
  | .ops n _ _ => 1 ≤ n
  | _ => True
theorem wr_of (o : One) : Wr (.of o) ∧ need (.of o) = 1 ∧ rank (.of o) ≤ 4 := by cases o <;> simp [Rl.of, Wr, need, rank]
def TlF (s : List PTok) : Prop := kd s ≠ 0 → (tl s).length + 1 = s.length
theorem tl_lenP (s : List PTok) : TlF s := fun h => by
  cases s with
  | nil => exact absurd rfl h
  | cons a r => rfl
/-- what is left is shorter -/
def Sh (n d : Nat) : Res → Prop
  | .ok _ s => s.length + d ≤ n
  | _ => True
theorem sh_le {M d N D : Nat} {x : Res} (h : Sh M d x) (he : M + D ≤ N + d) : Sh N D x := by
  cases x with
  | ok a s => simp only [Sh] at h ⊢; omega
  | err s => trivial
  | out => trivial
theorem sh_and {M d N D : Nat} {x : Res} {k : List Tr → List PTok → Res} (h : Sh M d x) (hk : ∀ a s, s.length + d ≤ M → TlF s → Sh N D (k a s)) : Sh N D (andT x k) := by
  cases x with
  | ok a s => exact hk a s h (tl_lenP s)
  | err s => trivial
  | out => trivial
theorem sh_want {N D c : Nat} {s : List PTok} {k : List PTok → Res} (hc : c ≠ 0) (hk : kd s = c → (tl s).length + 1 = s.length → TlF (tl s) → Sh N D (k (tl s))) : Sh N D (want c s k) := by
  unfold want
  split
  · rename_i h
    exact hk h (tl_lenP s (by omega)) (tl_lenP _)
  · trivial
theorem sh_name {N D : Nat} {s : List PTok} {k : List UInt8 → List PTok → Res} (hk : (tl s).length + 1 = s.length → TlF (tl s) → Sh N D (k (hd s).name (tl s))) : Sh N D (nameK s k) := by
  unfold nameK
  split
  · rename_i h
    exact hk (tl_lenP s (by omega)) (tl_lenP _)
  · trivial
theorem sh_num {N D : Nat} {s : List PTok} {k : Nat → List PTok → Res} (hk : (tl s).length + 1 = s.length → TlF (tl s) → Sh N D (k (hd s).num (tl s))) : Sh N D (numK s k) := by
  unfold numK
  split
  · rename_i h
    exact hk (tl_lenP s (by omega)) (tl_lenP _)
  · trivial
theorem sh_if {N D : Nat} {p : Prop} [Decidable p] {a b : Res} (h1 : p → Sh N D a) (h2 : ¬ p → Sh N D b) : Sh N D (if p then a else b) := by
  split
  · rename_i h; exact h1 h
  · rename_i h; exact h2 h
theorem sh_mk {N D : Nat} {kind num : Int} {s r : List PTok} {name : List UInt8} {kids : List Tr} (h : r.length + D ≤ N) : Sh N D (mk1 kind s num name kids r) := h
theorem sh_ok {N D : Nat} {a : List Tr} {r : List PTok} (h : r.length + D ≤ N) : Sh N D (.ok a r) := h
theorem betw_zero {k : Nat} (h : 1 ≤ binLevelI (betw k)) : k ≠ 0 := by
  intro e
  subst e
  have : binLevelI (betw 0) = 0 := by decide
  omega
theorem body_sh {g : Rl → List PTok → Res} (H : ∀ r s, Wr r → Sh s.length (need r) (g r s)) (r : Rl) (s : List PTok) (hr : Wr r) : Sh s.length (need r) (body g r s) := by
  have e0 := tl_lenP s
  have L : ∀ {r s} {N D : Nat}, Wr r → s.length + D ≤ N + need r → Sh N D (g r s) := fun hw he => sh_le (H _ _ hw) he
  cases r
  case ops least left most =>
    unfold body
    have hr : 1 ≤ least := hr
    refine sh_if (fun h => sh_ok (by simp [need])) (fun h => ?_)
    have h1 : 1 ≤ binLevelI (betw (kd s)) := by omega
    have h2 := e0 (betw_zero h1)
    refine sh_and (H (.operands _) _ (by show 1 ≤ _; omega)) (fun a s1 q q2 => ?_)
    exact L (show Wr (.ops _ _ _) from hr) (by simp only [need] at q ⊢; omega)
  case parted o =>
    unfold body
    obtain ⟨w1, w2, w3⟩ := wr_of o
    refine sh_and (H _ _ w1) (fun a s1 q q2 => ?_)
    rw [w2] at q
    refine sh_if (fun h => ?_) (fun h => sh_ok (by simp only [need]; omega))
    have h2 := q2 (by omega)
    refine sh_and (H (.parted o) _ trivial) (fun b s2 p p2 => sh_ok ?_)
    simp only [need] at p ⊢
    omega
  all_goals
    unfold body
    repeat' (first
      | refine sh_want (by decide) (fun h1 h2 h3 => ?_)
      | refine sh_name (fun h2 h3 => ?_)
      | refine sh_num (fun h2 h3 => ?_)
      | refine sh_and (H _ _ (by first | trivial | (show (1 : Int) ≤ 1; decide) | exact hr)) (fun a s1 q q2 => ?_)
      | refine sh_if (fun h => ?_) (fun h => ?_))
    all_goals
      first
      | (refine sh_mk ?_; simp only [need, TlF] at *; omega)
      | (refine sh_ok ?_; simp only [need, TlF] at *; omega)
      | (refine L (by first | trivial | (show (1 : Int) ≤ 1; decide) | exact hr) ?_; simp only [need, TlF] at *; omega)
theorem pF_sh : ∀ (f : Nat) (r : Rl) (s : List PTok), Wr r → Sh s.length (need r) (pF f r s)
  | 0, _, _, _ => trivial
  | f + 1, r, s, h => body_sh (pF_sh f) r s h
/-- it does not run out -/
def No (x : Res) : Prop := x ≠ .out
theorem no_and {M d : Nat} {x : Res} {k : List Tr → List PTok → Res} (h0 : No x) (h : Sh M d x) (hk : ∀ a s, s.length + d ≤ M → TlF s → No (k a s)) : No (andT x k) := by
  cases x with
  | ok a s => exact hk a s h (tl_lenP s)
  | err s => intro e; cases e
  | out => exact absurd rfl h0
theorem no_want {c : Nat} {s : List PTok} {k : List PTok → Res} (hc : c ≠ 0) (hk : kd s = c → (tl s).length + 1 = s.length → TlF (tl s) → No (k (tl s))) : No (want c s k) := by
  unfold want
  split
  · rename_i h
    exact hk h (tl_lenP s (by omega)) (tl_lenP _)
  · intro e; cases e
theorem no_name {s : List PTok} {k : List UInt8 → List PTok → Res} (hk : (tl s).length + 1 = s.length → TlF (tl s) → No (k (hd s).name (tl s))) : No (nameK s k) := by
  unfold nameK
  split
  · rename_i h
    exact hk (tl_lenP s (by omega)) (tl_lenP _)
  · intro e; cases e
theorem no_num {s : List PTok} {k : Nat → List PTok → Res} (hk : (tl s).length + 1 = s.length → TlF (tl s) → No (k (hd s).num (tl s))) : No (numK s k) := by
  unfold numK
  split
  · rename_i h
    exact hk (tl_lenP s (by omega)) (tl_lenP _)
  · intro e; cases e
theorem no_if {p : Prop} [Decidable p] {a b : Res} (h1 : p → No a) (h2 : ¬ p → No b) : No (if p then a else b) := by
  split
  · rename_i h; exact h1 h
  · rename_i h; exact h2 h
theorem no_mk {kind num : Int} {s r : List PTok} {name : List UInt8} {kids : List Tr} : No (mk1 kind s num name kids r) := fun e => by cases e
theorem no_ok {a : List Tr} {r : List PTok} : No (.ok a r) := fun e => by cases e
set_option maxHeartbeats 1000000 in
theorem body_no {f : Nat} (H : ∀ r s, Wr r → 20 * s.length + rank r < f → No (pF f r s)) (r : Rl) (s : List PTok) (hr : Wr r) (hf : 20 * s.length + rank r < f + 1) : No (body (pF f) r s) := by
  have e0 := tl_lenP s
  have S := pF_sh f
  cases r
  case ops least left most =>
    unfold body
    have hr : 1 ≤ least := hr
    refine no_if (fun h => no_ok) (fun h => ?_)
    have h1 : 1 ≤ binLevelI (betw (kd s)) := by omega
    have h2 := e0 (betw_zero h1)
    simp only [rank] at hf
    have w : Wr (.operands (binLevelI (betw (kd s)) + 1)) := by show (1 : Int) ≤ _; omega
    refine no_and (H _ _ w (by simp only [rank]; omega)) (S _ _ w) (fun a s1 q q2 => ?_)
    simp only [need] at q
    exact H _ _ (show Wr (.ops _ _ _) from hr) (by simp only [rank]; omega)
  case parted o =>
    unfold body
    obtain ⟨w1, w2, w3⟩ := wr_of o
    simp only [rank] at hf
    refine no_and (H _ _ w1 (by omega)) (S _ _ w1) (fun a s1 q q2 => ?_)
    rw [w2] at q
    refine no_if (fun h => ?_) (fun h => no_ok)
    have h2 := q2 (by omega)
    exact no_and (H (.parted o) _ trivial (by simp only [rank]; omega)) (S (.parted o) _ trivial) (fun b s2 p p2 => no_ok)
  all_goals
    unfold body
    repeat' (first
      | exact no_mk
      | exact no_ok
      | refine no_want (by decide) (fun h1 h2 h3 => ?_)
      | refine no_name (fun h2 h3 => ?_)
      | refine no_num (fun h2 h3 => ?_)
      | refine no_and (H _ _ (by first | trivial | (show (1 : Int) ≤ 1; decide) | exact hr) (by simp only [rank, need, TlF] at *; omega)) (S _ _ (by first | trivial | (show (1 : Int) ≤ 1; decide) | exact hr)) (fun a s1 q q2 => ?_)
      | exact H _ _ (by first | trivial | (show (1 : Int) ≤ 1; decide) | exact hr) (by simp only [rank, need, TlF] at *; omega)
      | refine no_if (fun h => ?_) (fun h => ?_))
/-- **the fuel is enough** -/
theorem pF_no : ∀ (f : Nat) (r : Rl) (s : List PTok), Wr r → 20 * s.length + rank r < f → No (pF f r s)
  | 0, _, _, _, h => by omega
  | f + 1, r, s, h, hf => body_no (pF_no f) r s h hf
end Go.Proofs.YtecodpdfckjalaaGreatDoor
namespace Go.Proofs.YtecodpdfckjalaaGreatDoor
open Go.RowKit
set_option linter.unusedVariables false
set_option linter.unusedSimpArgs false

theorem six (a b x y : Value) : (#[a, b] ++ ((Array.replicate 6 undef).setIfInBounds 1 x).setIfInBounds 0 y) = #[a, b, y, x, undef, undef, undef, undef] := rfl
set_option maxRecDepth 100000 in
theorem catch_idle (p q : Addr) (w : World) :
    CallsD Tryz.prog 37 #[.pointer (some p), .pointer (some q)] .returning w fun e u' w' => e = .returned (.tuple #[]) ∧ u' = .returning ∧ w' = w := by
  refine callsD_of_wpS Tryz.func37 rfl fun c₀ cs hu => ?_
  apply wpS_seq
  apply wpS_region
  simp [wpOpsS, go_sem, recoverD, hu, Tryz.ntmps37, Exit.thenS]
  rw [six]
  apply wpS_seq
  apply wpS_region
  simp [wpOpsS, go_sem, Exit.thenS]
  refine wpS_cond (t := false) (by simp [Act.eval]) ?_
  simp only [Bool.false_eq_true, if_false]
  refine wpS_of_wp (wp_skip ?_)
  cases c₀
  simp_all [bodyPostS, results, Tryz.results37]
theorem fault_is (xT : TypeId) (v : Value) (W : World) : (Instr.typeAssert (.iface 30 v) xT 30 false).run Tryz.prog W = .ok v W := by
  simp [Instr.typeAssert, run_underlying Tryz.underlying30]
set_option maxRecDepth 100000 in
theorem catch_panicking (a b : Nat) (pl : Int) (older : List PanicEntry) (w : World) (v0 v1 v2 : Value) (h0 : w.cell? ⟨a, 0, none⟩ = some v0) (h1 : w.cell? ⟨b, 0, none⟩ = some v1) (h2 : w.cell? ⟨b, 1, none⟩ = some v2) (f0 : w.frozen? ⟨a, 0, none⟩ = false) (f1 : w.frozen? ⟨b, 0, none⟩ = false) (f2 : w.frozen? ⟨b, 1, none⟩ = false) (hab : a ≠ b) :
    CallsD Tryz.prog 37 #[.pointer (some ⟨a, 0, none⟩), .pointer (some ⟨b, 0, none⟩)] (.panicking ({ v := .iface 30 (.agg #[.int .i64 pl, .int .i64 30]), recovered := false } :: older)) w fun e u' w' =>
      e = .returned (.tuple #[]) ∧ u' = .panicking ({ v := .iface 30 (.agg #[.int .i64 pl, .int .i64 30]), recovered := true } :: older) ∧ w' = (((w.setCell ⟨a, 0, none⟩ (.slice none 0 0)).setCell ⟨b, 0, none⟩ (.int .i64 pl)).setCell ⟨b, 1, none⟩ (.int .i64 30)).drew := by
  refine callsD_of_wpS Tryz.func37 rfl fun c₀ cs hu => ?_
  apply wpS_seq
  apply wpS_region
  simp [wpOpsS, go_sem, recoverD, hu, Tryz.ntmps37, Exit.thenS]
  rw [six]
  apply wpS_seq
  apply wpS_region
  simp [wpOpsS, go_sem, Exit.thenS]
  have hta := fun xT W => fault_is xT (.agg #[.int .i64 pl, .int .i64 30]) W
  refine wpS_cond (t := true) (by simp [Act.eval]) ?_
  simp only [if_true]
  refine wpS_of_wp ?_
  go_region
  all_goals simp [bodyPostS, results, Tryz.results37]
end Go.Proofs.YtecodpdfckjalaaGreatDoor
