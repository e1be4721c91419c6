import Derived.Test.YtjfabholalnbeabCES
namespace Go.Proofs.Ytjfabholalnbeab
open Go.RowKit Go.MapKept Go.ChangeMaps Go.WideShapes
set_option linter.unusedVariables false
set_option linter.unusedSimpArgs false

/-! ### levels, in plain words -/
theorem ids_none {N : Int → Option Lk} {ids : List Int} (hi : IdsOf N ids) (h : ∀ id, N id = none) : ids = [] := by
  cases ids with
  | nil => rfl
  | cons x r => have := (hi.2 x).1 List.mem_cons_self; rw [h x] at this; cases this
theorem lvl_none {f : Int → Ag} {A0 : Int → List Int} {N0 : Int → Option Lk} (h0 : ∀ id, N0 id = none) {k : Nat} {A : Int → List Int} {Y : Int → Option Wy} {N : Int → Option Lk} (h : Lvl f A0 N0 k A Y N) : (∀ id, N id = none) ∧ ∀ id, Y id = none := by
  induction h with
  | one => exact ⟨h0, fun _ => rfl⟩
  | @step k A Y N N' ids h1 hi hp ih =>
    have e := ids_none hi ih.1
    subst e
    refine ⟨fun id => ?_, fun id => ?_⟩
    · cases hn : N' id with
      | none => rfl
      | some l =>
        obtain ⟨_, _, c, hc, _⟩ := hp.no id (by rw [hn]; simp)
        cases hc
    · unfold wyN; rw [ih.1 id]; exact ih.2 id
theorem lvl_first {f : Int → Ag} {A0 : Int → List Int} {N0 : Int → Option Lk} {k : Nat} {A : Int → List Int} {Y : Int → Option Wy} {N : Int → Option Lk} (h : Lvl f A0 N0 k A Y N) {id : Int} {l : Lk} (h0 : N0 id = some l) : (k = 1 ∧ N = N0 ∧ Y id = none) ∨ (Y id = some (1, l) ∧ N id = none) := by
  have stop : ∀ {k : Nat} {A : Int → List Int} {Y : Int → Option Wy} {N N' : Int → Option Lk} {L : Int → Lk} {d : Int → Bool}, OpO A (fun i => (wyN k Y N i).isSome) L d N' → (wyN k Y N id).isSome = true → N' id = none := fun {k A Y N N' L d} hp h => by
    cases hn : N' id with
    | none => rfl
    | some l =>
      obtain ⟨_, h2, _⟩ := hp.no id (by rw [hn]; simp)
      rw [h] at h2
      cases h2
  induction h with
  | one => exact .inl ⟨rfl, rfl, rfl⟩
  | @step k A Y N N' ids h1 hi hp ih =>
    rcases ih with ⟨e1, e2, e3⟩ | ⟨e1, e2⟩
    · subst e1 e2
      have : wyN ((1 : Nat) : Int) Y N id = some (1, l) := by unfold wyN; rw [h0]; rfl
      exact .inr ⟨this, stop hp (by rw [this]; rfl)⟩
    · have : wyN (k : Int) Y N id = some (1, l) := by unfold wyN; rw [e2]; exact e1
      exact .inr ⟨this, stop hp (by rw [this]; rfl)⟩

/-! ### the example -/
def exA : List Ag := [⟨0, false, [⟨3, false⟩], [3]⟩]
def exB : List Ag := [⟨0, false, [⟨3, false⟩], [3]⟩, ⟨1, true, [], [3]⟩]
theorem exA_ok : stOk exA = true := by decide
theorem exB_ok : stOk exB = true := by decide
theorem exA_n0 (id : Int) : N0D exA id = none := by
  cases h : N0D exA id with
  | none => rfl
  | some l =>
    have h2 : id ∈ exA.map (·.id) := ou_mem _ _ exA id (by show N0D exA id ≠ none; rw [h]; simp)
    simp only [exA, List.map_cons, List.map_nil, List.mem_singleton] at h2
    subst h2
    have : N0D exA 0 = none := by rfl
    rw [this] at h
    cases h
theorem exB_n0 : N0D exB 0 = some ⟨1, 0, 3⟩ := by rfl
theorem exA_dead {Y : Int → Option Wy} (h : Full exA Y) : ddL Y exA = [0] := by
  obtain ⟨k, A, N, h1, _⟩ := h
  have := (lvl_none exA_n0 h1).2 0
  simp [ddL, ddA, exA, this]
theorem exB_dead {Y : Int → Option Wy} (h : Full exB Y) : ddL Y exB = [] := by
  obtain ⟨k, A, N, h1, h2⟩ := h
  rcases lvl_first h1 exB_n0 with ⟨_, e, _⟩ | ⟨e, _⟩
  · have := h2 0
    rw [e, exB_n0] at this
    cases this
  · simp [ddL, ddA, exB, e]
theorem exB_chain {Y : Int → Option Wy} (h : FdR exB 0 Y) : Y 0 = some (1, ⟨1, 0, 3⟩) := by
  obtain ⟨k, A, Y', N, h1, _, h2, h3⟩ := h
  rcases lvl_first h1 exB_n0 with ⟨rfl, e, _⟩ | ⟨e, _⟩
  · rcases h3 with ⟨h3, _⟩ | ⟨⟨l, h3, h4⟩, _⟩
    · have := h3 0
      rw [e, exB_n0] at this
      cases this
    · rw [e, exB_n0] at h3
      cases h3
      exact h4
  · rw [h2] at e
    cases e
end Go.Proofs.Ytjfabholalnbeab
