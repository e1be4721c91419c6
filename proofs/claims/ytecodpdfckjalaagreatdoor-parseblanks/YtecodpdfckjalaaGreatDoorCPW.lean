import Derived.Test.YtecodpdfckjalaaGreatDoorCPN
import Derived.Test.YtecodpdfckjalaaGreatDoorCTLv
namespace Go.Proofs.YtecodpdfckjalaaGreatDoor
set_option linter.unusedVariables false
set_option linter.unusedSimpArgs false

/-! ### what is read is small: as many nodes as tokens, and every number fits -/
structure OkT (t : PTok) : Prop where
  place : t.place ≤ 65536
  num : t.num < 9223372036854775808
  name : t.name.length ≤ 65536
def OkTs (s : List PTok) : Prop := ∀ t ∈ s, OkT t
theorem ok_hd {s : List PTok} (h : OkTs s) : OkT (hd s) := by
  cases s with
  | nil => exact ⟨Nat.zero_le _, by decide, Nat.zero_le _⟩
  | cons a r => exact h a (List.mem_cons_self)
theorem ok_tl {s : List PTok} (h : OkTs s) : OkTs (tl s) := fun t ht => h t (List.mem_of_mem_tail ht)
mutual
def tW : Tr → Prop
  | .mk k p n nm ks => (0 ≤ k ∧ k ≤ 100) ∧ p ≤ 65536 ∧ (0 ≤ n ∧ n < 9223372036854775808) ∧ nm.length ≤ 65536 ∧ tsW ks
def tsW : List Tr → Prop
  | [] => True
  | t :: r => tW t ∧ tsW r
end
theorem tsW_app : ∀ {a b : List Tr}, tsW a → tsW b → tsW (a ++ b)
  | [], b, _, hb => hb
  | t :: r, b, ha, hb => ⟨ha.1, tsW_app ha.2 hb⟩
theorem len_sizes : ∀ a : List Tr, a.length ≤ sizes a
  | [] => Nat.zero_le _
  | t :: r => by
    have := len_sizes r
    have := size_pos t
    simp only [List.length_cons, sizes]
    omega
def Wl (N D : Nat) : Res → Prop
  | .ok ts s => tsW ts ∧ OkTs s ∧ sizes ts + s.length + D ≤ N
  | .err s => OkTs s
  | .out => True
theorem wl_le {M d N D : Nat} {x : Res} (h : Wl M d x) (he : M + D ≤ N + d) : Wl N D x := by
  cases x with
  | ok a s => exact ⟨h.1, h.2.1, by have := h.2.2; omega⟩
  | err s => exact h
  | out => trivial
theorem wl_and {M d N D : Nat} {x : Res} {k : List Tr → List PTok → Res} (h : Wl M d x) (hk : ∀ a s, tsW a → OkTs s → sizes a + s.length + d ≤ M → TlF s → Wl N D (k a s)) : Wl N D (andT x k) := by
  cases x with
  | ok a s => exact hk a s h.1 h.2.1 h.2.2 (tl_lenP s)
  | err s => exact h
  | out => trivial
theorem wl_want {N D c : Nat} {s : List PTok} {k : List PTok → Res} (hs : OkTs s) (hc : c ≠ 0) (hk : OkTs (tl s) → (tl s).length + 1 = s.length → TlF (tl s) → Wl N D (k (tl s))) : Wl N D (want c s k) := by
  unfold want
  split
  · rename_i h
    exact hk (ok_tl hs) (tl_lenP s (by omega)) (tl_lenP _)
  · exact hs
theorem wl_name {N D : Nat} {s : List PTok} {k : List UInt8 → List PTok → Res} (hs : OkTs s) (hk : ∀ n, n.length ≤ 65536 → OkTs (tl s) → (tl s).length + 1 = s.length → TlF (tl s) → Wl N D (k n (tl s))) : Wl N D (nameK s k) := by
  unfold nameK
  split
  · rename_i h
    exact hk _ (ok_hd hs).name (ok_tl hs) (tl_lenP s (by omega)) (tl_lenP _)
  · exact hs
theorem wl_num {N D : Nat} {s : List PTok} {k : Nat → List PTok → Res} (hs : OkTs s) (hk : ∀ n, n < 9223372036854775808 → OkTs (tl s) → (tl s).length + 1 = s.length → TlF (tl s) → Wl N D (k n (tl s))) : Wl N D (numK s k) := by
  unfold numK
  split
  · rename_i h
    exact hk _ (ok_hd hs).num (ok_tl hs) (tl_lenP s (by omega)) (tl_lenP _)
  · exact hs
theorem wl_if {N D : Nat} {p : Prop} [Decidable p] {a b : Res} (h1 : p → Wl N D a) (h2 : ¬ p → Wl N D b) : Wl N D (if p then a else b) := by
  split
  · rename_i h; exact h1 h
  · rename_i h; exact h2 h
theorem wl_mk {N D : Nat} {kind num : Int} {s r : List PTok} {name : List UInt8} {kids : List Tr} (hs : OkTs s) (hr : OkTs r) (hks : tsW kids) (hn : name.length ≤ 65536) (hk : 0 ≤ kind ∧ kind ≤ 100) (hnu : 0 ≤ num ∧ num < 9223372036854775808) (h : sizes kids + 1 + r.length + D ≤ N) : Wl N D (mk1 kind s num name kids r) :=
  ⟨⟨⟨hk, (ok_hd hs).place, hnu, hn, hks⟩, trivial⟩, hr, by simp only [sizes, Tr.size]; omega⟩
theorem wl_ok {N D : Nat} {a : List Tr} {r : List PTok} (ha : tsW a) (hr : OkTs r) (h : sizes a + r.length + D ≤ N) : Wl N D (.ok a r) := ⟨ha, hr, h⟩
/-- what a rule takes besides tokens -/
def exR : Rl → Nat
  | .ops _ left _ => sizes left
  | .post kid => sizes kid
  | .program => 1
  | _ => 0
/-- tokens that make no node -/
def slR : Rl → Nat
  | .listed _ => 1
  | _ => 0
def WrW : Rl → Prop
  | .operands n => 1 ≤ n
  | .ops n left _ => 1 ≤ n ∧ tsW left
  | .post kid => tsW kid
  | _ => True
theorem ite_in {p : Prop} [Decidable p] {a b : Int} (ha : 0 ≤ a ∧ a < 9223372036854775808) (hb : 0 ≤ b ∧ b < 9223372036854775808) : 0 ≤ (if p then a else b) ∧ (if p then a else b) < 9223372036854775808 := by
  split
  · exact ha
  · exact hb
theorem betw_in (k : Nat) : 0 ≤ betw k ∧ betw k < 9223372036854775808 := by
  unfold betw
  repeat (refine ite_in (by decide) ?_)
  decide
theorem num_len {b : List Tr} {n d N : Nat} (h : sizes b + n + d ≤ N) (hN : N ≤ 70000) : 0 ≤ (b.length : Int) ∧ (b.length : Int) < 9223372036854775808 := by
  have := len_sizes b
  omega
theorem num_nat {n : Nat} (h : n < 9223372036854775808) : 0 ≤ (n : Int) ∧ (n : Int) < 9223372036854775808 := by omega
theorem tsW1 {k : Int} {p : Nat} {n : Int} {nm : List UInt8} {ks : List Tr} {s : List PTok} (hs : OkTs s) (hk : 0 ≤ k ∧ k ≤ 100) (hp : p = (hd s).place) (hn : 0 ≤ n ∧ n < 9223372036854775808) (hnm : nm.length ≤ 65536) (hks : tsW ks) : tsW [.mk k p n nm ks] :=
  ⟨⟨hk, by rw [hp]; exact (ok_hd hs).place, hn, hnm, hks⟩, trivial⟩
theorem ex_of (o : One) : exR (.of o) = 0 ∧ slR (.of o) = 0 ∧ WrW (.of o) := by cases o <;> simp [Rl.of, exR, slR, WrW]
set_option maxHeartbeats 2000000 in
theorem body_wl {g : Rl → List PTok → Res} (H : ∀ r s, WrW r → OkTs s → s.length ≤ 70000 → Wl (s.length + exR r) (slR r) (g r s)) (r : Rl) (s : List PTok) (hr : WrW r) (hs : OkTs s) (hl : s.length ≤ 70000) : Wl (s.length + exR r) (slR r) (body g r s) := by
  have e0 := tl_lenP s
  have ht := ok_tl hs
  have L : ∀ {r s} {N D : Nat}, WrW r → OkTs s → s.length ≤ 70000 → s.length + exR r + D ≤ N + slR r → Wl N D (g r s) := fun h1 h2 h3 he => wl_le (H _ _ h1 h2 h3) he
  cases r
  case ops least left most =>
    unfold body
    obtain ⟨hr, hle⟩ := hr
    refine wl_if (fun h => wl_ok hle hs (by simp only [exR, slR]; omega)) (fun h => ?_)
    have h1 : 1 ≤ binLevelI (betw (kd s)) := by omega
    have h2 := e0 (betw_zero h1)
    refine wl_and (H (.operands _) _ (by show 1 ≤ _; omega) ht (by omega)) (fun a s1 q1 q2 q q3 => ?_)
    simp only [exR, slR] at q ⊢
    refine L (show WrW (.ops _ _ _) from ⟨hr, tsW1 hs (by decide) rfl (betw_in _) (Nat.zero_le _) (tsW_app hle q1)⟩) q2 (by omega) ?_
    simp only [exR, slR, sizes, Tr.size, sizes_append]
    omega
  case post kid =>
    unfold body
    have hle : tsW kid := hr
    simp only [exR, slR]
    refine wl_if (fun h => ?_) (fun h => wl_if (fun h => ?_) (fun h => wl_if (fun h => ?_) (fun h => wl_ok hle hs (by omega))))
    · refine wl_and (H (.listed .expr) _ trivial hs hl) (fun a s1 q1 q2 q q3 => ?_)
      simp only [exR, slR] at q
      refine L (show WrW (.post _) from tsW1 hs (by decide) rfl (by decide) (Nat.zero_le _) (tsW_app hle q1)) q2 (by omega) ?_
      simp only [exR, slR, sizes, Tr.size, sizes_append]
      omega
    · refine wl_want hs (by decide) (fun t1 t2 t3 => wl_and (H (.operands 1) _ (by show (1 : Int) ≤ 1; decide) t1 (by omega)) (fun a s1 q1 q2 q q3 => wl_want q2 (by decide) (fun u1 u2 u3 => ?_)))
      simp only [exR, slR] at q
      refine L (show WrW (.post _) from tsW1 hs (by decide) rfl (by decide) (Nat.zero_le _) (tsW_app hle q1)) u1 (by omega) ?_
      simp only [exR, slR, sizes, Tr.size, sizes_append]
      omega
    · refine wl_want hs (by decide) (fun t1 t2 t3 => wl_num t1 (fun n n1 u1 u2 u3 => ?_))
      refine L (show WrW (.post _) from tsW1 hs (by decide) rfl ⟨by omega, by omega⟩ (Nat.zero_le _) hle) u1 (by omega) ?_
      simp only [exR, slR, sizes, Tr.size]
      omega
  case parted o =>
    unfold body
    obtain ⟨w1, w3, w2⟩ := ex_of o
    refine wl_and (H _ _ w2 hs hl) (fun a s1 q1 q2 q q3 => ?_)
    rw [w1, w3] at q
    refine wl_if (fun h => ?_) (fun h => wl_ok q1 q2 (by simp only [exR, slR]; omega))
    have h2 := q3 (by omega)
    refine wl_and (H (.parted o) _ trivial (ok_tl q2) (by omega)) (fun b s2 p1 p2 p p3 => wl_ok (tsW_app q1 p1) p2 ?_)
    simp only [exR, slR, sizes_append] at p ⊢
    omega
  case operands least =>
    unfold body
    refine wl_and (H .unary _ trivial hs hl) (fun a s1 q1 q2 q q3 => ?_)
    simp only [exR, slR] at q ⊢
    exact L (show WrW (.ops _ _ _) from ⟨hr, q1⟩) q2 (by omega) (by simp only [exR, slR]; omega)
  case postf =>
    unfold body
    refine wl_and (H .primary _ trivial hs hl) (fun a s1 q1 q2 q q3 => ?_)
    simp only [exR, slR] at q ⊢
    exact L (show WrW (.post _) from q1) q2 (by omega) (by simp only [exR, slR]; omega)
  case program =>
    unfold body
    refine wl_and (H .types _ trivial hs hl) (fun a s1 q1 q2 q q3 => ?_)
    simp only [exR, slR] at q ⊢
    refine wl_and (H .tops _ trivial q2 (by omega)) (fun b s2 p1 p2 p p3 => ?_)
    simp only [exR, slR] at p
    have := len_sizes a
    refine wl_ok ⟨⟨by decide, by decide, ⟨by omega, by omega⟩, by decide, tsW_app q1 p1⟩, trivial⟩ p2 ?_
    simp only [sizes, Tr.size, sizes_append]
    omega
  all_goals
    unfold body
    simp only [exR, slR]
    repeat' (first
      | refine wl_name (by assumption) (fun n n1 t1 t2 t3 => ?_)
      | refine wl_num (by assumption) (fun n n1 t1 t2 t3 => ?_)
      | refine wl_want (by assumption) (by decide) (fun t1 t2 t3 => ?_)
      | refine wl_and (H _ _ (by first | trivial | (show (1 : Int) ≤ 1; decide)) (by assumption) (by simp only [TlF, exR, slR] at *; omega)) (fun a s1 q1 q2 q q3 => ?_)
      | refine wl_if (fun h => ?_) (fun h => ?_))
    all_goals
      first
      | refine wl_mk (by assumption) (by first | assumption | exact ok_tl (by assumption)) (by first | exact trivial | assumption | exact tsW_app (by assumption) (by assumption) | exact tsW_app (by assumption) (tsW_app (by assumption) (by assumption))) (by first | assumption | exact Nat.zero_le _) (by first | decide | (split <;> decide)) (by first | decide | exact num_nat (by assumption) | exact num_len (by assumption) (by simp only [TlF, exR, slR] at *; omega)) ?_
      | refine wl_ok (by first | exact trivial | assumption | exact tsW_app (by assumption) (by assumption)) (by first | assumption | exact ok_tl (by assumption)) ?_
      | refine L (by first | trivial | (show (1 : Int) ≤ 1; decide)) (by first | assumption | exact ok_tl (by assumption)) (by simp only [TlF, exR, slR] at *; omega) ?_
    all_goals
      simp only [TlF, exR, slR, sizes, sizes_append, List.length_nil] at *
      omega
theorem pF_wl : ∀ (f : Nat) (r : Rl) (s : List PTok), WrW r → OkTs s → s.length ≤ 70000 → Wl (s.length + exR r) (slR r) (pF f r s)
  | 0, _, _, _, _, _ => trivial
  | f + 1, r, s, h1, h2, h3 => body_wl (pF_wl f) r s h1 h2 h3
end Go.Proofs.YtecodpdfckjalaaGreatDoor
namespace Go.Proofs.YtecodpdfckjalaaGreatDoor
open Go.RowKit
set_option linter.unusedVariables false
set_option linter.unusedSimpArgs false

theorem below2 (w w1 : World) (o : Obj) (h : Below (w.alloc o).heap.size (w.alloc o) w1) : Below w.heap.size w w1 := (below1 w o).trans (h.mono (by simp))

set_option maxHeartbeats 1000000 in
theorem numFits_any (ka : Option Addr) (kc : Nat) (n : Nd) (w : World) : Calls Tryz.prog 23 #[ndV ka kc n] w fun e w' => e = .returned (.bool (numFitsI n.kind n.num n.kids.length)) ∧ Below w.heap.size w w' := by
  obtain ⟨k, p, ks, nm, num⟩ := n
  unfold ndV
  simp only
  have HL : Bx (∀ w, Calls Tryz.prog 39 #[.agg #[.int .i64 k, .int .i64 p, .slice ka ks.length kc, .string nm, .int .i64 num]] w fun e w' => e = .returned (.int .i64 (levelI k num)) ∧ Below w.heap.size w w') := ⟨fun w => Level_any ka kc ⟨k, p, ks, nm, num⟩ w⟩
  go_enter Tryz.func23, Tryz.ntmps23
  go_wp2_with (first | (go_at_call 39; refine Calls.mono (HL.out _) ?_; rintro e w1 ⟨rfl, hb1⟩))
  all_goals
    go_ret
    refine ⟨ret_bool ?_, by first | exact below1 _ _ | exact below2 _ _ _ hb1⟩
    clear HL
    unfold numFitsI
    simp at *
    (repeat' split) <;> first | rfl | omega | (simp_all; done) | (simp_all; omega)
def wbbI (lv pl : Int) : Int := if pl = 0 ∧ lv ≠ 3 then lv else lv + 1
set_option maxHeartbeats 1000000 in
theorem wantedByBin_any (lv pl : Int) (w : World) (h : 0 ≤ lv) (h' : lv ≤ 8) : Calls Tryz.prog 73 #[.int .i64 lv, .int .i64 pl] w fun e w' => e = .returned (.int .i64 (wbbI lv pl)) ∧ w = w' := by
  go_enter Tryz.func73, Tryz.ntmps73
  go_wp2
  all_goals
    go_ret
    refine ⟨ret_int ?_, rfl⟩
    unfold wbbI
    simp at *
    (repeat' split) <;> omega
set_option maxHeartbeats 1000000 in
theorem wanted_any (ka : Option Addr) (kc : Nat) (n : Nd) (pl : Nat) (hp : pl ≤ maxLen) (w : World) : Calls Tryz.prog 47 #[ndV ka kc n, .int .i64 pl] w fun e w' => e = .returned (.int .i64 (wantedI n.kind n.num pl)) ∧ Below w.heap.size w w' := by
  obtain ⟨k, p, ks, nm, num⟩ := n
  unfold ndV
  simp only
  have HL : Bx (∀ w, Calls Tryz.prog 39 #[.agg #[.int .i64 k, .int .i64 p, .slice ka ks.length kc, .string nm, .int .i64 num]] w fun e w' => e = .returned (.int .i64 (levelI k num)) ∧ Below w.heap.size w w') := ⟨fun w => Level_any ka kc ⟨k, p, ks, nm, num⟩ w⟩
  have hle := levelI_le k num
  go_enter Tryz.func47, Tryz.ntmps47
  go_wp2_with (first | (go_at_call 39; refine Calls.mono (HL.out _) ?_; rintro e w1 ⟨rfl, hb1⟩) | (go_at_call 73; refine (wantedByBin_any _ _ _ hle.1 hle.2).mono ?_; rintro e w' ⟨rfl, rfl⟩))
  all_goals
    go_ret
    refine ⟨ret_int ?_, by first | exact below1 _ _ | exact below2 _ _ _ hb1⟩
    clear HL
    unfold wantedI
    try unfold wbbI
    simp at *
    (repeat' split) <;> first | rfl | omega | (simp_all; done) | (simp_all; omega)
/-- an operator's token -/
def opT (op : Int) : List UInt8 :=
  if op = 1 ∨ op = 32 then [45] else if op = 2 then [33] else if op = 3 then [60, 45] else if op = 11 then [124, 124] else if op = 12 then [38, 38] else if op = 21 then [61, 61] else if op = 22 then [33, 61] else if op = 23 then [60]
  else if op = 24 then [60, 61] else if op = 25 then [62] else if op = 26 then [62, 61] else if op = 31 then [43] else if op = 41 then [42] else if op = 42 then [47] else [37]
set_option maxHeartbeats 1000000 in
theorem operator_any (op : Int) (w : World) : Calls Tryz.prog 56 #[.int .i64 op] w fun e w' => e = .returned (.string ⟨(opT op).toArray⟩) ∧ w = w' := by
  go_enter Tryz.func56, Tryz.ntmps56
  go_wp2
  all_goals
    go_ret
    refine ⟨?_, rfl⟩
    unfold opT
    simp at *
    simp [*]
end Go.Proofs.YtecodpdfckjalaaGreatDoor
