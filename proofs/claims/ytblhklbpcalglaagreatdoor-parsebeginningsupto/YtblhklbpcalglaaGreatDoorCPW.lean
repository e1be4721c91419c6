import Derived.Test.YtblhklbpcalglaaGreatDoorCTPlain
import Derived.Test.YtblhklbpcalglaaGreatDoorCQL
import Derived.Deep.QuietTactic
import Derived.BigQuiet
import Derived.Deep.RegionHeld
import Derived.WalkSmall
import Derived.Deep.DeepFit
import Derived.Deep.DrawnRows
import Derived.Deep.LoopGhost
import Derived.BigFrame
namespace Go.Proofs.YtblhklbpcalglaaGreatDoor
set_option linter.unusedVariables false
set_option linter.unusedSimpArgs false
structure OkT (t : PTok) : Prop where
  place : t.place ≤ 65536
  num : t.num < 9223372036854775808
  name : t.name.length ≤ 65536
def OkTs (s : List PTok) : Prop := ∀ t ∈ s, OkT t
theorem ok_hd {s : List PTok} (h : OkTs s) : OkT (hd s) := by
  cases s with
  | nil => exact ⟨Nat.zero_le _, by decide, Nat.zero_le _⟩
  | cons a r => exact h a (List.mem_cons_self)
theorem ok_tl {s : List PTok} (h : OkTs s) : OkTs (tl s) := fun t ht => h t (List.mem_of_mem_tail ht)
mutual
def tW : Tr → Prop
  | .mk k p n nm ks => (0 ≤ k ∧ k ≤ 100) ∧ p ≤ 65536 ∧ (0 ≤ n ∧ n < 9223372036854775808) ∧ nm.length ≤ 65536 ∧ tsW ks
def tsW : List Tr → Prop
  | [] => True
  | t :: r => tW t ∧ tsW r
end
theorem tsW_app : ∀ {a b : List Tr}, tsW a → tsW b → tsW (a ++ b)
  | [], b, _, hb => hb
  | t :: r, b, ha, hb => ⟨ha.1, tsW_app ha.2 hb⟩
theorem len_sizes : ∀ a : List Tr, a.length ≤ sizes a
  | [] => Nat.zero_le _
  | t :: r => by
    have := len_sizes r
    have := size_pos t
    simp only [List.length_cons, sizes]
    omega
def Wl (N D : Nat) : Res → Prop
  | .ok ts s => tsW ts ∧ OkTs s ∧ sizes ts + s.length + D ≤ N
  | .err s => OkTs s
  | .out => True
theorem wl_le {M d N D : Nat} {x : Res} (h : Wl M d x) (he : M + D ≤ N + d) : Wl N D x := by
  cases x with
  | ok a s => exact ⟨h.1, h.2.1, by have := h.2.2; omega⟩
  | err s => exact h
  | out => trivial
theorem wl_and {M d N D : Nat} {x : Res} {k : List Tr → List PTok → Res} (h : Wl M d x) (hk : ∀ a s, tsW a → OkTs s → sizes a + s.length + d ≤ M → TlF s → Wl N D (k a s)) : Wl N D (andT x k) := by
  cases x with
  | ok a s => exact hk a s h.1 h.2.1 h.2.2 (tl_lenP s)
  | err s => exact h
  | out => trivial
theorem wl_want {N D c : Nat} {s : List PTok} {k : List PTok → Res} (hs : OkTs s) (hc : c ≠ 0) (hk : OkTs (tl s) → (tl s).length + 1 = s.length → TlF (tl s) → Wl N D (k (tl s))) : Wl N D (want c s k) := by
  unfold want
  split
  · rename_i h
    exact hk (ok_tl hs) (tl_lenP s (by omega)) (tl_lenP _)
  · exact hs
theorem wl_name {N D : Nat} {s : List PTok} {k : List UInt8 → List PTok → Res} (hs : OkTs s) (hk : ∀ n, n.length ≤ 65536 → OkTs (tl s) → (tl s).length + 1 = s.length → TlF (tl s) → Wl N D (k n (tl s))) : Wl N D (nameK s k) := by
  unfold nameK
  split
  · rename_i h
    exact hk _ (ok_hd hs).name (ok_tl hs) (tl_lenP s (by omega)) (tl_lenP _)
  · exact hs
theorem wl_num {N D : Nat} {s : List PTok} {k : Nat → List PTok → Res} (hs : OkTs s) (hk : ∀ n, n < 9223372036854775808 → OkTs (tl s) → (tl s).length + 1 = s.length → TlF (tl s) → Wl N D (k n (tl s))) : Wl N D (numK s k) := by
  unfold numK
  split
  · rename_i h
    exact hk _ (ok_hd hs).num (ok_tl hs) (tl_lenP s (by omega)) (tl_lenP _)
  · exact hs
theorem wl_if {N D : Nat} {p : Prop} [Decidable p] {a b : Res} (h1 : p → Wl N D a) (h2 : ¬ p → Wl N D b) : Wl N D (if p then a else b) := by
  split
  · rename_i h; exact h1 h
  · rename_i h; exact h2 h
theorem wl_mk {N D : Nat} {kind num : Int} {s r : List PTok} {name : List UInt8} {kids : List Tr} (hs : OkTs s) (hr : OkTs r) (hks : tsW kids) (hn : name.length ≤ 65536) (hk : 0 ≤ kind ∧ kind ≤ 100) (hnu : 0 ≤ num ∧ num < 9223372036854775808) (h : sizes kids + 1 + r.length + D ≤ N) : Wl N D (mk1 kind s num name kids r) :=
  ⟨⟨⟨hk, (ok_hd hs).place, hnu, hn, hks⟩, trivial⟩, hr, by simp only [sizes, Tr.size]; omega⟩
theorem wl_ok {N D : Nat} {a : List Tr} {r : List PTok} (ha : tsW a) (hr : OkTs r) (h : sizes a + r.length + D ≤ N) : Wl N D (.ok a r) := ⟨ha, hr, h⟩
def exR : Rl → Nat
  | .ops _ left _ => sizes left
  | .post kid => sizes kid
  | .program => 1
  | _ => 0
def slR : Rl → Nat
  | .listed _ => 1
  | _ => 0
def WrW : Rl → Prop
  | .operands n => 1 ≤ n
  | .ops n left _ => 1 ≤ n ∧ tsW left
  | .post kid => tsW kid
  | _ => True
theorem ite_in {p : Prop} [Decidable p] {a b : Int} (ha : 0 ≤ a ∧ a < 9223372036854775808) (hb : 0 ≤ b ∧ b < 9223372036854775808) : 0 ≤ (if p then a else b) ∧ (if p then a else b) < 9223372036854775808 := by
  split
  · exact ha
  · exact hb
theorem betw_in (k : Nat) : 0 ≤ betw k ∧ betw k < 9223372036854775808 := by
  unfold betw
  repeat (refine ite_in (by decide) ?_)
  decide
theorem num_len {b : List Tr} {n d N : Nat} (h : sizes b + n + d ≤ N) (hN : N ≤ 70000) : 0 ≤ (b.length : Int) ∧ (b.length : Int) < 9223372036854775808 := by
  have := len_sizes b
  omega
theorem num_nat {n : Nat} (h : n < 9223372036854775808) : 0 ≤ (n : Int) ∧ (n : Int) < 9223372036854775808 := by omega
theorem tsW1 {k : Int} {p : Nat} {n : Int} {nm : List UInt8} {ks : List Tr} {s : List PTok} (hs : OkTs s) (hk : 0 ≤ k ∧ k ≤ 100) (hp : p = (hd s).place) (hn : 0 ≤ n ∧ n < 9223372036854775808) (hnm : nm.length ≤ 65536) (hks : tsW ks) : tsW [.mk k p n nm ks] :=
  ⟨⟨hk, by rw [hp]; exact (ok_hd hs).place, hn, hnm, hks⟩, trivial⟩
theorem ex_of (o : One) : exR (.of o) = 0 ∧ slR (.of o) = 0 ∧ WrW (.of o) := by cases o <;> simp [Rl.of, exR, slR, WrW]
set_option maxHeartbeats 2000000 in
theorem body_wl {g : Rl → List PTok → Res} (H : ∀ r s, WrW r → OkTs s → s.length ≤ 70000 → Wl (s.length + exR r) (slR r) (g r s)) (r : Rl) (s : List PTok) (hr : WrW r) (hs : OkTs s) (hl : s.length ≤ 70000) : Wl (s.length + exR r) (slR r) (body g r s) := by
  have e0 := tl_lenP s
  have ht := ok_tl hs
  have L : ∀ {r s} {N D : Nat}, WrW r → OkTs s → s.length ≤ 70000 → s.length + exR r + D ≤ N + slR r → Wl N D (g r s) := fun h1 h2 h3 he => wl_le (H _ _ h1 h2 h3) he
  cases r
  case ops least left most =>
    unfold body
    obtain ⟨hr, hle⟩ := hr
    refine wl_if (fun h => wl_ok hle hs (by simp only [exR, slR]; omega)) (fun h => ?_)
    have h1 : 1 ≤ binLevelI (betw (kd s)) := by omega
    have h2 := e0 (betw_zero h1)
    refine wl_and (H (.operands _) _ (by show 1 ≤ _; omega) ht (by omega)) (fun a s1 q1 q2 q q3 => ?_)
    simp only [exR, slR] at q ⊢
    refine L (show WrW (.ops _ _ _) from ⟨hr, tsW1 hs (by decide) rfl (betw_in _) (Nat.zero_le _) (tsW_app hle q1)⟩) q2 (by omega) ?_
    simp only [exR, slR, sizes, Tr.size, sizes_append]
    omega
  case post kid =>
    unfold body
    have hle : tsW kid := hr
    simp only [exR, slR]
    refine wl_if (fun h => ?_) (fun h => wl_if (fun h => ?_) (fun h => wl_if (fun h => ?_) (fun h => wl_ok hle hs (by omega))))
    · refine wl_and (H (.listed .expr) _ trivial hs hl) (fun a s1 q1 q2 q q3 => ?_)
      simp only [exR, slR] at q
      refine L (show WrW (.post _) from tsW1 hs (by decide) rfl (by decide) (Nat.zero_le _) (tsW_app hle q1)) q2 (by omega) ?_
      simp only [exR, slR, sizes, Tr.size, sizes_append]
      omega
    · refine wl_want hs (by decide) (fun t1 t2 t3 => wl_and (H (.operands 1) _ (by show (1 : Int) ≤ 1; decide) t1 (by omega)) (fun a s1 q1 q2 q q3 => wl_want q2 (by decide) (fun u1 u2 u3 => ?_)))
      simp only [exR, slR] at q
      refine L (show WrW (.post _) from tsW1 hs (by decide) rfl (by decide) (Nat.zero_le _) (tsW_app hle q1)) u1 (by omega) ?_
      simp only [exR, slR, sizes, Tr.size, sizes_append]
      omega
    · refine wl_want hs (by decide) (fun t1 t2 t3 => wl_num t1 (fun n n1 u1 u2 u3 => ?_))
      refine L (show WrW (.post _) from tsW1 hs (by decide) rfl ⟨by omega, by omega⟩ (Nat.zero_le _) hle) u1 (by omega) ?_
      simp only [exR, slR, sizes, Tr.size]
      omega
  case parted o =>
    unfold body
    obtain ⟨w1, w3, w2⟩ := ex_of o
    refine wl_and (H _ _ w2 hs hl) (fun a s1 q1 q2 q q3 => ?_)
    rw [w1, w3] at q
    refine wl_if (fun h => ?_) (fun h => wl_ok q1 q2 (by simp only [exR, slR]; omega))
    have h2 := q3 (by omega)
    refine wl_and (H (.parted o) _ trivial (ok_tl q2) (by omega)) (fun b s2 p1 p2 p p3 => wl_ok (tsW_app q1 p1) p2 ?_)
    simp only [exR, slR, sizes_append] at p ⊢
    omega
  case operands least =>
    unfold body
    refine wl_and (H .unary _ trivial hs hl) (fun a s1 q1 q2 q q3 => ?_)
    simp only [exR, slR] at q ⊢
    exact L (show WrW (.ops _ _ _) from ⟨hr, q1⟩) q2 (by omega) (by simp only [exR, slR]; omega)
  case «postfix» =>
    unfold body
    refine wl_and (H .primary _ trivial hs hl) (fun a s1 q1 q2 q q3 => ?_)
    simp only [exR, slR] at q ⊢
    exact L (show WrW (.post _) from q1) q2 (by omega) (by simp only [exR, slR]; omega)
  case program =>
    unfold body
    refine wl_and (H .types _ trivial hs hl) (fun a s1 q1 q2 q q3 => ?_)
    simp only [exR, slR] at q ⊢
    refine wl_and (H .tops _ trivial q2 (by omega)) (fun b s2 p1 p2 p p3 => ?_)
    simp only [exR, slR] at p
    have := len_sizes a
    refine wl_ok ⟨⟨by decide, by decide, ⟨by omega, by omega⟩, by decide, tsW_app q1 p1⟩, trivial⟩ p2 ?_
    simp only [sizes, Tr.size, sizes_append]
    omega
  all_goals
    unfold body
    simp only [exR, slR]
    repeat' (first
      | refine wl_name (by assumption) (fun n n1 t1 t2 t3 => ?_)
      | refine wl_num (by assumption) (fun n n1 t1 t2 t3 => ?_)
      | refine wl_want (by assumption) (by decide) (fun t1 t2 t3 => ?_)
      | refine wl_and (H _ _ (by first | trivial | (show (1 : Int) ≤ 1; decide)) (by assumption) (by simp only [TlF, exR, slR] at *; omega)) (fun a s1 q1 q2 q q3 => ?_)
      | refine wl_if (fun h => ?_) (fun h => ?_))
    all_goals
      first
      | refine wl_mk (by assumption) (by first | assumption | exact ok_tl (by assumption)) (by first | exact trivial | assumption | exact tsW_app (by assumption) (by assumption) | exact tsW_app (by assumption) (tsW_app (by assumption) (by assumption))) (by first | assumption | exact Nat.zero_le _) (by first | decide | (split <;> decide)) (by first | decide | exact num_nat (by assumption) | exact num_len (by assumption) (by simp only [TlF, exR, slR] at *; omega)) ?_
      | refine wl_ok (by first | exact trivial | assumption | exact tsW_app (by assumption) (by assumption)) (by first | assumption | exact ok_tl (by assumption)) ?_
      | refine L (by first | trivial | (show (1 : Int) ≤ 1; decide)) (by first | assumption | exact ok_tl (by assumption)) (by simp only [TlF, exR, slR] at *; omega) ?_
    all_goals
      simp only [TlF, exR, slR, sizes, sizes_append, List.length_nil] at *
      omega
theorem pF_wl : ∀ (f : Nat) (r : Rl) (s : List PTok), WrW r → OkTs s → s.length ≤ 70000 → Wl (s.length + exR r) (slR r) (pF f r s)
  | 0, _, _, _, _, _ => trivial
  | f + 1, r, s, h1, h2, h3 => body_wl (pF_wl f) r s h1 h2 h3
end Go.Proofs.YtblhklbpcalglaaGreatDoor
namespace Go.Proofs.YtblhklbpcalglaaGreatDoor
open Go.RowKit
set_option linter.unusedVariables false
set_option linter.unusedSimpArgs false
end Go.Proofs.YtblhklbpcalglaaGreatDoor
namespace Go.Proofs.YtblhklbpcalglaaGreatDoor
open Go.RowKit
set_option linter.unusedVariables false
set_option linter.unusedSimpArgs false
def Far (c : Nat) (w w' : World) : Prop := ∀ b, b ≠ c → w'.heap[b]? = w.heap[b]?
theorem Far.refl (c : Nat) (w : World) : Far c w w := fun _ _ => rfl
theorem Far.drew {c : Nat} {w w' : World} (h : Far c w w') : Far c w w'.drew := h
theorem Far.trans {c : Nat} {w w' w'' : World} (h : Far c w w') (h' : Far c w' w'') : Far c w w'' := fun b hb => (h' b hb).trans (h b hb)
theorem Far.cell {c : Nat} {w w' : World} (h : Far c w w') (b i : Nat) (hb : b ≠ c) : w'.cell? ⟨b, i, none⟩ = w.cell? ⟨b, i, none⟩ := by
  have := h b hb
  simp only [World.cell?, this]
structure IntsV (w : World) (B : Nat) (v : Value) (ks : List Int) : Prop where
  ex : ∃ a cap, v = .slice a ks.length cap ∧ ks.length ≤ cap ∧ ks.length ≤ maxLen ∧ (0 < ks.length → ∃ b o, a = some ⟨b, o, none⟩ ∧ b < B ∧ ∀ i (h : i < ks.length), w.cell? ⟨b, o + i, none⟩ = some (.int .i64 ks[i]))
def curO (lv left : Value) (m : Bool) : Obj := .cells #[lv, left, .bool m] 0 (0, 0)
theorem sizeOf3 (w : World) : (Go.sizeOf 3).run Tryz.prog w = .ok 1 w := by kernel_rfl
end Go.Proofs.YtblhklbpcalglaaGreatDoor
namespace Go.Proofs.YtblhklbpcalglaaGreatDoor
open Go.RowKit
set_option linter.unusedVariables false
set_option linter.unusedSimpArgs false
end Go.Proofs.YtblhklbpcalglaaGreatDoor
namespace Go.Proofs.YtblhklbpcalglaaGreatDoor
open Go.RowKit
set_option linter.unusedVariables false
set_option linter.unusedSimpArgs false
end Go.Proofs.YtblhklbpcalglaaGreatDoor
namespace Go.Proofs.YtblhklbpcalglaaGreatDoor
open Go.RowKit
set_option linter.unusedVariables false
set_option linter.unusedSimpArgs false
theorem IntsV.below {w w' : World} {B : Nat} {v : Value} {ks : List Int} (h : IntsV w B v ks) (hb : Below B w w') : IntsV w' B v ks := by
  obtain ⟨a, cap, h1, h2, h3, h4⟩ := h.ex
  refine ⟨a, cap, h1, h2, h3, fun h0 => ?_⟩
  obtain ⟨b, o, e1, e2, e3⟩ := h4 h0
  exact ⟨b, o, e1, e2, fun i hi => by rw [hb.cell (p := ⟨b, o + i, none⟩) e2]; exact e3 i hi⟩
structure CurS (w : World) (c B nb no nc : Nat) (l : List Nd) (ks : List Nat) (m : Bool) : Prop where
  left : ∃ left, w.heap[c]? = some (curO (.slice (some ⟨nb, no, none⟩) l.length nc) left m) ∧ IntsV w B left (ks.map fun k : Nat => (k : Int))
  nodes : ∀ j, j < l.length → w.cell? ⟨nb, no + j * 5, none⟩ = some (.int .i64 (kdN l j))
  inn : ∀ k ∈ ks, k < l.length
  lo : nb < B
  hi : B ≤ c
  max : l.length ≤ maxLen
theorem CurS.facts {w : World} {c B nb no nc : Nat} {l : List Nd} {ks : List Nat} {m : Bool} (h : CurS w c B nb no nc l ks m) :
    w.cell? ⟨c, 2, none⟩ = some (.bool m) ∧ w.frozen? ⟨c, 2, none⟩ = false ∧ c < w.heap.size ∧ ∃ a cap, w.cell? ⟨c, 1, none⟩ = some (.slice a ks.length cap) := by
  obtain ⟨left, hc, hv⟩ := h.left
  obtain ⟨a, cap, rfl, _⟩ := hv.ex
  have h2 : w.cell? ⟨c, 2, none⟩ = some (.bool m) := by simp [World.cell?, hc, curO]
  exact ⟨h2, by simp [World.frozen?, hc, curO], World.block_lt_of_cell? w _ h2, a, cap, by simp [World.cell?, hc, curO]⟩
end Go.Proofs.YtblhklbpcalglaaGreatDoor
