import Derived.Test.YtjjbgbadkbomlaaDoorCTLv
import Derived.Test.YtjjbgbadkbomlaaDoorCTSw
import Derived.Test.YtjjbgbadkbomlaaDoorCNext
namespace Go.Proofs.YtjjbgbadkbomlaaDoor
open Go.RowKit
set_option linter.unusedVariables false
set_option linter.unusedSimpArgs false

/-- a text that is one token, a name, from its first byte to its last -/
def nameToks (n : Nat) : List Tok → Bool
  | [t] => ((t.kind : Int) == 1) && ((t.len : Int) == (n : Int))
  | _ => false
def nameOk (xs : List UInt8) : Bool := nameToks xs.length (scanAll xs).1

theorem bl (s : ByteArray) : s.data.toList.length = s.size := by rw [Array.length_toList]; rfl
theorem src_bytes (w : World) (s : ByteArray) : Src (Lib.bytesWorld w 5 s) w.heap.size 0 s.data.toList := by
  intro i hi
  rw [Nat.zero_add, Lib.bytesWorld_cell _ _ _ _ (by rw [← bl]; exact hi)]
  rw [List.getD_eq_getElem?_getD, List.getElem?_eq_getElem hi]
  rfl

theorem owns_first {w : World} {B : Nat} {v : Value} {ts : List Tok} (h : w.ownsRow B 88 4 v ts.length (toksC ts)) :
    ∃ a cap, v = .slice a ts.length cap ∧ ∀ t, ts = [t] → ∃ g, a = some ⟨g, 0, none⟩ ∧ g < w.heap.size ∧ w.cell? ⟨g, 0, none⟩ = some (.int .i64 t.kind) ∧ w.cell? ⟨g, 2, none⟩ = some (.int .i64 t.len) := by
  obtain ⟨h1, h2⟩ := h
  rcases h2 with ⟨hv, h0⟩ | ⟨g, cap, cur, hv, hg, hh, hc, hm, hz, ht⟩
  · have h0 : ts.length = 0 := h0
    refine ⟨none, 0, by rw [hv, h0], fun t e => ?_⟩
    rw [e] at h0; cases h0
  · refine ⟨some ⟨g, 0, none⟩, cap, hv, fun t e => ⟨g, rfl, ?_, ?_, ?_⟩⟩
    · rcases Nat.lt_or_ge g w.heap.size with hlt | hge
      · exact hlt
      · rw [Array.getElem?_eq_none hge] at hh; cases hh
    all_goals
      subst e
      rw [cell_of_row w g _ cur 88 (0, 0) hh]
    · have : (toksC [t])[0]? = some (.int .i64 t.kind) := by simp [toksC, tokC]
      rw [← ht, List.getElem?_take_of_lt (by simp)] at this
      simpa using this
    · have : (toksC [t])[2]? = some (.int .i64 t.len) := by simp [toksC, tokC]
      rw [← ht, List.getElem?_take_of_lt (by simp)] at this
      simpa using this

set_option maxRecDepth 100000 in
set_option maxHeartbeats 1000000 in
theorem isName_any (s : ByteArray) (w : World) (hl : s.size ≤ maxLen) (hL : Laid w) :
    Calls Tryd.prog 50 #[.string s] w fun e w' => e = .returned (.bool (nameOk s.data.toList)) ∧ Below w.heap.size w w' := by
  have hb : Below w.heap.size w (Lib.bytesWorld w 5 s) := below_bytes w s
  have hS : Bx _ := ⟨Scan_any (some ⟨w.heap.size, 0, none⟩) (grownCap w s.size 0 5) s.data.toList (Lib.bytesWorld w 5 s) ⟨fun _ => ⟨_, _, rfl, by rw [Lib.bytesWorld_size]; omega, src_bytes w s⟩, by rw [bl]; exact grownCap_ge w s.size 0 5, by rw [bl]; exact hl⟩ (hL.below hb)⟩
  have kc := conv_bytes s
  unfold nameOk
  have hsz := bl s
  rw [hsz] at hS ⊢
  generalize hT : (scanAll s.data.toList).1 = ts at *
  generalize (scanAll s.data.toList).2 = fl at *
  have hsz1 := Lib.bytesWorld_size w 5 s
  clear hT hL
  match ts, hS with
  | [], hS =>
    go_enter Tryd.func50, Tryd.ntmps50
    go_wp2_with (first | (go_at_call 61; refine Calls.mono hS.out ?_; rintro e w1 ⟨v, rfl, hown, hb1⟩; obtain ⟨a, cap, rfl, hx⟩ := owns_first hown; have hw1 := hb1.size; clear hx hown))
    go_ret
    exact ⟨rfl, (hb.trans (hb1.mono (by omega))).alloc (by omega) _⟩
  | [t], hS =>
    cases hk : ((t.kind : Int) == 1)
    · go_enter Tryd.func50, Tryd.ntmps50
      go_wp2_with (first | (go_at_call 61; refine Calls.mono hS.out ?_; rintro e w1 ⟨v, rfl, hown, hb1⟩; obtain ⟨a, cap, rfl, hx⟩ := owns_first hown; have hw1 := hb1.size; obtain ⟨g, rfl, hg, k0, k2⟩ := hx t rfl; clear hx hown))
      go_ret
      exact ⟨ret_bool (by simp [nameToks, hk]), (hb.trans (hb1.mono (by omega))).alloc (by omega) _⟩
    · go_enter Tryd.func50, Tryd.ntmps50
      go_wp2_with (first | (go_at_call 61; refine Calls.mono hS.out ?_; rintro e w1 ⟨v, rfl, hown, hb1⟩; obtain ⟨a, cap, rfl, hx⟩ := owns_first hown; have hw1 := hb1.size; obtain ⟨g, rfl, hg, k0, k2⟩ := hx t rfl; clear hx hown))
      go_ret
      exact ⟨ret_bool (by simp [nameToks, hk]), (hb.trans (hb1.mono (by omega))).alloc (by omega) _⟩
  | t :: t' :: r, hS =>
    have hne : (((t :: t' :: r).length : Int) == 1) = false := by rw [beq_eq_false_iff_ne]; simp; omega
    generalize hR : (t :: t' :: r) = rs at *
    go_enter Tryd.func50, Tryd.ntmps50
    go_wp2_with (first | (go_at_call 61; refine Calls.mono hS.out ?_; rintro e w1 ⟨v, rfl, hown, hb1⟩; obtain ⟨a, cap, rfl, hx⟩ := owns_first hown; have hw1 := hb1.size; clear hx hown))
    go_ret
    exact ⟨ret_bool (by rw [← hR]; rfl), (hb.trans (hb1.mono (by omega))).alloc (by omega) _⟩
end Go.Proofs.YtjjbgbadkbomlaaDoor
namespace Go.Proofs.YtjjbgbadkbomlaaDoor
open Go.RowKit
set_option linter.unusedVariables false
set_option linter.unusedSimpArgs false

def emptyB (s : ByteArray) : Bool := s.toList.isEmpty
def nameFitsI (kind : Int) (nm : ByteArray) : Bool :=
  if kind = 20 ∨ kind = 43 then emptyB nm || nameOk nm.data.toList
  else if kind = 3 ∨ kind = 13 ∨ kind = 31 ∨ kind = 32 ∨ kind = 42 ∨ kind = 45 then nameOk nm.data.toList
  else emptyB nm

set_option maxRecDepth 100000 in
set_option maxHeartbeats 1000000 in
theorem nameFits_any (ka : Option Addr) (kc : Nat) (n : Nd) (w : World) (hl : n.name.size ≤ maxLen) (hL : Laid w) : Calls Tryd.prog 36 #[ndV ka kc n] w fun e w' => e = .returned (.bool (nameFitsI n.kind n.name)) ∧ Below w.heap.size w w' := by
  obtain ⟨k, p, ks, nm, num⟩ := n
  unfold ndV
  simp only at *
  have HN : Bx (∀ w', Laid w' → Calls Tryd.prog 50 #[.string nm] w' fun e w'' => e = .returned (.bool (nameOk nm.data.toList)) ∧ Below w'.heap.size w' w'') := ⟨fun w' h => isName_any nm w' hl h⟩
  have HL := hL.below (below1 w (.cells #[.int .i64 k, .int .i64 p, .slice ka ks.length kc, .string nm, .int .i64 num] 36))
  generalize hok : nameOk nm.data.toList = ok at *
  have HF : Bx (nameFitsI k nm = if k = 20 ∨ k = 43 then emptyB nm || ok else if k = 3 ∨ k = 13 ∨ k = 31 ∨ k = 32 ∨ k = 42 ∨ k = 45 then ok else emptyB nm) := ⟨by rw [← hok]; rfl⟩
  generalize nameFitsI k nm = F at *
  clear hok
  go_enter Tryd.func36, Tryd.ntmps36
  go_wp2_with (first | (go_at_call 50; refine Calls.mono (HN.out _ HL) ?_; rintro e w1 ⟨rfl, hb1⟩))
  all_goals
    go_ret
    refine ⟨ret_bool ?_, by first | exact below1 _ _ | exact below2 _ _ _ hb1⟩
    rw [HF.out]
    clear HF HN HL hL
    unfold emptyB
    simp at *
    (repeat' split) <;> first | rfl | omega | (simp_all; done) | (simp_all; omega)
end Go.Proofs.YtjjbgbadkbomlaaDoor
