import Derived.Test.YtjabdhmkibahlaaCGIp
import Derived.Deep.RegionHeld
import Derived.Test.YtjabdhmkibahlaaCGN
namespace Go.Proofs.Ytjabdhmkibahlaa
open Go.RowKit
set_option linter.unusedVariables false
set_option linter.unusedSimpArgs false

/-! ### links in memory, to be read in every later world -/
structure LksR (w : World) (p : Option Addr) (c : Nat) (l : List Lk) : Prop where
  len : l.length ≤ c
  max : c ≤ maxLen
  at_ : ∀ i (h : i < l.length), ∃ b o, p = some ⟨b, o, none⟩ ∧ Lk64 l[i] ∧ ∀ X, Below w.heap.size w X → X.cell? ⟨b, o + i * 3, none⟩ = some (.int .i64 l[i].waker) ∧ X.cell? ⟨b, o + i * 3 + 1, none⟩ = some (.int .i64 l[i].woken) ∧ X.cell? ⟨b, o + i * 3 + 2, none⟩ = some (.int .i64 l[i].chan)
theorem LksR.later {w w' : World} {p : Option Addr} {c : Nat} {l : List Lk} (h : LksR w p c l) (hb : Below w.heap.size w w') : LksR w' p c l :=
  ⟨h.len, h.max, fun i hi => by obtain ⟨b, o, e, h6, h1⟩ := h.at_ i hi; exact ⟨b, o, e, h6, fun X hX => h1 X (hb.trans (hX.mono hb.size))⟩⟩
theorem lksC_at : ∀ (l : List Lk) (i : Nat) (h : i < l.length), (lksC l)[i * 3]? = some (.int .i64 l[i].waker) ∧ (lksC l)[i * 3 + 1]? = some (.int .i64 l[i].woken) ∧ (lksC l)[i * 3 + 2]? = some (.int .i64 l[i].chan)
  | x :: r, 0, h => ⟨rfl, rfl, rfl⟩
  | x :: r, i + 1, h => by
    have ih := lksC_at r i (by simpa using h)
    have e : ∀ j, (lksC (x :: r))[j + 3]? = (lksC r)[j]? := fun j => rfl
    rw [show (i + 1) * 3 = i * 3 + 3 by omega, show i * 3 + 3 + 1 = i * 3 + 1 + 3 by omega, show i * 3 + 3 + 2 = i * 3 + 2 + 3 by omega, e, e, e]
    exact ih
theorem lks_read {W : World} {B : Nat} {v : Value} {l : List Lk} (h : W.ownsRow B 24 3 v l.length (lksC l)) (h64 : ∀ x ∈ l, Lk64 x) : ∃ p c, v = .slice p l.length c ∧ LksR W p c l := by
  have h' := h
  rcases h.2 with ⟨x1, x2⟩ | ⟨g, cap, cur, x1, x2, x3, x4, x5, x6, x7⟩
  · exact ⟨none, 0, by rw [x1, x2], by omega, by simp [maxLen], fun i hi => by omega⟩
  · refine ⟨some ⟨g, 0, none⟩, cap, x1, x4, x5, fun i hi => ⟨g, 0, rfl, h64 _ (List.getElem_mem hi), fun X hX => ?_⟩⟩
    rw [x1] at h'
    obtain ⟨e1, e2, e3⟩ := lksC_at l i hi
    have hl := (Array.getElem?_eq_some_iff.1 x3).1
    rw [Nat.zero_add]
    exact ⟨by rw [hX.cell (p := ⟨g, i * 3, none⟩) hl, h'.cellAt (i * 3) (by omega)]; exact e1, by rw [hX.cell (p := ⟨g, i * 3 + 1, none⟩) hl, h'.cellAt (i * 3 + 1) (by omega)]; exact e2, by rw [hX.cell (p := ⟨g, i * 3 + 2, none⟩) hl, h'.cellAt (i * 3 + 2) (by omega)]; exact e3⟩
theorem links_64 {w : World} {p : Option Addr} {c : Nat} {s : List Ag} (h : AgsR w p c s) (hok : stOk s = true) : ∀ l ∈ linksI s, Lk64 l := fun l hl => by
  obtain ⟨i, hi, h1, h2, h3, h4, h5, h6⟩ := link_parts hok hl
  obtain ⟨_, _, _, _, _, _, _, hA, _⟩ := h.at_ i hi
  exact ⟨keys_64 h _ h5, by rw [h1]; exact hA.id, on_64 hA.arms h3⟩
/-- Links, of a state that may be -/
theorem Links_r (w : World) (p : Option Addr) (c : Nat) (s : List Ag) (h : AgsR w p c s) (ht : totA s ≤ 2147483647) (hok : stOk s = true) :
    Calls Try.prog 11 #[.slice p s.length c] w fun e w' => ∃ lp lc, e = .returned (.slice lp (linksI s).length lc) ∧ LksR w' lp lc (linksI s) ∧ Below w.heap.size w w' := by
  refine (Links_yes w p c s h (few_of ht) hok (links_len hok ht)).mono ?_
  rintro e w' ⟨v, rfl, ho, hb⟩
  obtain ⟨lp, lc, rfl, hl⟩ := lks_read ho (links_64 h hok)
  exact ⟨lp, lc, rfl, hl, hb⟩
/-- Take, of a state that may be, with a link that fits -/
theorem Take_r (w : World) (p : Option Addr) (c : Nat) (s : List Ag) (l : Lk) (h : AgsR w p c s) (ht : totA s ≤ 2147483647) (hok : stOk s = true) (h64 : Lk64 l) (hf : fitsF (whoI s) l = true) :
    Calls Try.prog 18 #[.slice p s.length c, lkV l] w fun e w' => ∃ tp tc, e = .returned (.tuple #[.slice tp s.length tc, .int .i64 0]) ∧ AgsR w' tp tc (s.map (tkA l)) ∧ Below w.heap.size w w' := by
  refine (Take_yes w p c s l h (few_of ht) h64 hok).mono ?_
  rintro e w' ⟨hb, ⟨h0, _⟩ | ⟨_, v, cs, rfl, ho, hc⟩⟩
  · rw [hf] at h0; cases h0
  · obtain ⟨tp, tc, e, hr⟩ := AgC.read (gs := s.map (tkA l)) (by rw [List.length_map]; exact ho) hc
    rw [List.length_map] at e
    exact ⟨tp, tc, by rw [e], hr, hb⟩
set_option maxRecDepth 100000 in
theorem Links_no (w : World) (p : Option Addr) (c : Nat) (s : List Ag) (h : AgsR w p c s) (ht : totA s ≤ 2147483647) (hok : stOk s = false) :
    Calls Try.prog 11 #[.slice p s.length c] w fun e w' => e = .returned (.slice none 0 0) ∧ Below w.heap.size w w' := by
  have HC : Bx (Calls Try.prog 9 #[.slice p s.length c] w fun e w' => e = .returned (.int .i64 140) ∧ Below w.heap.size w w') := ⟨by
    have := Check_any w p c s h (few_of ht)
    rw [show chkI s = 140 by simp [chkI, hok]] at this
    exact this⟩
  clear h hok
  go_enter Try.func11, Try.ntmps11
  go_wp2_with (first | (go_at_call 9; refine Calls.mono HC.out ?_; rintro e w1 ⟨rfl, hb1⟩))
  go_ret
  exact ⟨rfl, hb1⟩
end Go.Proofs.Ytjabdhmkibahlaa
