import Derived.Test.YtjfabholalnbeabCEI
import Derived.Test.YtjfabholalnbeabCGQ
namespace Go.Proofs.Ytjfabholalnbeab
open Go.RowKit Go.MapKept Go.ChangeMaps Go.WideShapes
set_option linter.unusedVariables false
set_option linter.unusedSimpArgs false

/-! ### who waits where, in plain words -/
theorem arms_mem (A : Int → List Int) (id : Int) : ∀ (l : List Hd) (c x : Int), x ∈ atArms A id l c ↔ x ∈ A c ∨ (x = id ∧ ∃ h ∈ l, h.chan = c) := by
  intro l
  induction l generalizing A with
  | nil => intro c x; simp [atArms]
  | cons h r ih =>
    intro c x
    show x ∈ atArms (upd A h.chan (A h.chan ++ [id])) id r c ↔ _
    rw [ih]
    by_cases e : c = h.chan
    · subst e
      rw [upd_same, List.mem_append, List.mem_singleton]
      constructor
      · rintro ((h1 | h1) | ⟨h1, h2, h3, h4⟩)
        · exact .inl h1
        · exact .inr ⟨h1, h, List.mem_cons_self, rfl⟩
        · exact .inr ⟨h1, h2, List.mem_cons_of_mem _ h3, h4⟩
      · rintro (h1 | ⟨h1, h2, h3, h4⟩)
        · exact .inl (.inl h1)
        · exact .inl (.inr h1)
    · rw [upd_other _ _ e]
      constructor
      · rintro (h1 | ⟨h1, h2, h3, h4⟩)
        · exact .inl h1
        · exact .inr ⟨h1, h2, List.mem_cons_of_mem _ h3, h4⟩
      · rintro (h1 | ⟨h1, h2, h3, h4⟩)
        · exact .inl h1
        · rcases List.mem_cons.1 h3 with rfl | h3
          · exact absurd h4.symm e
          · exact .inr ⟨h1, h2, h3, h4⟩
theorem atD_mem (s : List Ag) (c x : Int) : x ∈ atD s c ↔ ∃ a ∈ s, a.id = x ∧ ∃ h ∈ a.arms, h.chan = c := by
  have key : ∀ (s : List Ag) (A : Int → List Int), x ∈ atF A s c ↔ x ∈ A c ∨ ∃ a ∈ s, a.id = x ∧ ∃ h ∈ a.arms, h.chan = c := by
    intro s
    induction s with
    | nil => intro A; simp [atF]
    | cons a r ih =>
      intro A
      show x ∈ atF (atArms A a.id a.arms) r c ↔ _
      rw [ih, arms_mem]
      constructor
      · rintro ((h1 | ⟨h1, h2⟩) | ⟨b, h1, h2⟩)
        · exact .inl h1
        · exact .inr ⟨a, List.mem_cons_self, h1.symm, h2⟩
        · exact .inr ⟨b, List.mem_cons_of_mem _ h1, h2⟩
      · rintro (h1 | ⟨b, h1, h2, h3⟩)
        · exact .inl (.inl h1)
        · rcases List.mem_cons.1 h1 with rfl | h1
          · exact .inl (.inr ⟨h2.symm, h3⟩)
          · exact .inr ⟨b, h1, h2, h3⟩
  unfold atD
  rw [key]
  simp
theorem AtI.rows {w W : World} {n : Nat} {A : Int → List Int} (h : AtI w W n A) (h64 : ∀ c, ∀ x ∈ A c, I64 x) : ∃ m V, MpI W w.heap.size m nV V (fun c => !(A c).isEmpty) ∧ RowsK w.heap.size W V A ∧ m ≤ n := by
  obtain ⟨m, V, own, hm, hw, hl, hb⟩ := h
  refine ⟨m, V, hw.map, fun c => ?_, hm⟩
  have h1 := hw.row c
  rcases h1.2 with ⟨x1, x2⟩ | ⟨g, cap, cur, x1, x2, x3, x4, x5, x6, x7⟩
  · exact ⟨none, 0, by rw [x1, x2], by omega, by simp [maxLen], fun i hi => by omega⟩
  · refine ⟨_, cap, x1, x4, x5, fun i hi => ⟨g, 0, rfl, h64 c _ (List.getElem_mem hi), fun X hX => ?_⟩⟩
    rw [x1] at h1
    have h5 := h1.cellAt i (by omega)
    have hgl := (Array.getElem?_eq_some_iff.1 x3).1
    have hne : g ≠ w.heap.size := fun e => by
      obtain ⟨D, ⟨es, clock, h0, _⟩, _⟩ := hw.map.ex
      rw [← e, x3] at h0
      cases h0
    rw [Nat.zero_add, show X.cell? ⟨g, i, none⟩ = W.cell? ⟨g, i, none⟩ by simp only [World.cell?, hX.keep g hgl hne]]
    refine h5.trans ?_
    simp [rowC, hi]
theorem RowsK.off {am : Nat} {w : World} {V : Int → Value} {A : Int → List Int} (h : RowsK am w V A) (H : Int → Option Int) : RowsK am w (fun c => if (H c).isSome then nV else V c) (fun c => if (H c).isSome then [] else A c) := fun c => by
  cases hc : (H c).isSome with
  | true => exact ⟨none, 0, by simp [hc, nV], by simp [hc], by simp [maxLen], fun i hi => by simp [hc] at hi⟩
  | false =>
    have h1 := h c
    simp only [hc, Bool.false_eq_true, if_false]
    exact h1
/-! ### levels -/
def wyN (k : Int) (Y : Int → Option Wy) (N : Int → Option Lk) (id : Int) : Option Wy := match N id with
  | some l => some (k, l)
  | none => Y id
def cutA (H : Int → Option Int) (A : Int → List Int) (c : Int) : List Int := if (H c).isSome then [] else A c
/-- the ids of a level, rising -/
def IdsOf (N : Int → Option Lk) (ids : List Int) : Prop := ids.Pairwise (· < ·) ∧ ∀ k, k ∈ ids ↔ (N k).isSome = true
inductive Lvl (f : Int → Ag) (A0 : Int → List Int) (N0 : Int → Option Lk) : Nat → (Int → List Int) → (Int → Option Wy) → (Int → Option Lk) → Prop
  | one : Lvl f A0 N0 1 A0 (fun _ => none) N0
  | step {k A Y N N' ids} : Lvl f A0 N0 k A Y N → IdsOf N ids → OpO A (fun i => (wyN k Y N i).isSome) (opL f (hoD f A ids)) (fun c => (hoD f A ids c).isSome) N' → Lvl f A0 N0 (k + 1) (cutA (hoD f A ids) A) (wyN k Y N) N'
def cntY (Y : Int → Option Wy) (K : List Int) : Nat := (K.filter fun k => (Y k).isSome).length
theorem cntY_le (Y : Int → Option Wy) (K : List Int) : cntY Y K ≤ K.length := List.length_filter_le _ _
theorem cntY_put {Y : Int → Option Wy} {k : Int} (l : Wy) (h : Y k = none) : ∀ {K : List Int}, k ∈ K → cntY Y K + 1 ≤ cntY (upd Y k (some l)) K := by
  have mono : ∀ (K : List Int), cntY Y K ≤ cntY (upd Y k (some l)) K := by
    intro K
    induction K with
    | nil => exact Nat.le_refl _
    | cons x r ih =>
      unfold cntY at ih ⊢
      rw [List.filter_cons, List.filter_cons]
      by_cases e : x = k
      · subst e
        rw [upd_same, h]
        simp
        omega
      · rw [upd_other _ _ e]
        split
        · simp only [List.length_cons]; omega
        · exact ih
  intro K hk
  induction K with
  | nil => cases hk
  | cons x r ih =>
    by_cases e : x = k
    · subst e
      have := mono r
      unfold cntY at this ⊢
      rw [List.filter_cons, List.filter_cons, upd_same, h]
      simp
      omega
    · have h2 := ih (by rcases List.mem_cons.1 hk with h | h; exact absurd h.symm e; exact h)
      unfold cntY at h2 ⊢
      rw [List.filter_cons, List.filter_cons, upd_other _ _ e]
      split
      · simp only [List.length_cons]; omega
      · exact h2
theorem WyM.put2 {W : World} {mb n : Nat} {Y : Int → Option Wy} (h : WyM W mb n Y) {c : Int} (hc : I64 c) (hn : n < maxLen) (y : Wy) : ∃ w', (Instr.mapUpdate 54 (.map (some mb)) (.int .i64 c) (.agg #[.int .i64 y.1, .int .i64 y.2.waker, .int .i64 y.2.woken, .int .i64 y.2.chan])).run Try.prog W = .ok () w' ∧ WyM w' mb (n + 1) (upd Y c (some y)) ∧ W.grownBy w' (some mb) := by
  obtain ⟨w', h1, h2, h3⟩ := MpI.put h Try.underlying54 hc hn (wyV y)
  refine ⟨w', h1, h2.ext (fun d => ?_) (fun d => ?_), h3⟩
  · by_cases e : d = c
    · subst e; rw [upd_same, upd_same]; rfl
    · rw [upd_other _ _ e, upd_other _ _ e]
  · by_cases e : d = c
    · subst e; rw [upd_same, upd_same]; rfl
    · rw [upd_other _ _ e, upd_other _ _ e]
end Go.Proofs.Ytjfabholalnbeab
namespace Go.Proofs.Ytjfabholalnbeab
open Go.RowKit Go.MapKept Go.ChangeMaps Go.WideShapes Go.Sort Go.Shelf Go.Maps
set_option linter.unusedVariables false
set_option linter.unusedSimpArgs false

theorem keysL_any (mb : Nat) (W : World) : Calls Try.prog 40 #[.map (some mb)] W fun e w' => e = .returned (.func (.func 56) #[] #[.pointer (some ⟨W.heap.size, 0, none⟩)]) ∧ w' = W.alloc (.cells #[.map (some mb)] 81) :=
  (callsIn_wide (n := 5)).1 (AnyZI.keys_in Go.Proofs.Try.keysB Fence.wide 5 trivial rfl (some mb) W)
/-- the ids of a level, in their order -/
theorem sortedL_any (W : World) (mb n : Nat) (z : Value) (M : Int → Value) (hs : Int → Bool) (h : MpI W mb n z M hs) (hn : n ≤ 2147483647) (X : World) (hX : X = W.alloc (.cells #[.map (some mb)] 81)) :
    Calls Try.prog 32 #[.func (.func 56) #[] #[.pointer (some ⟨W.heap.size, 0, none⟩)]] X fun e w' => ∃ v L, e = .returned v ∧ w'.ownsRow X.heap.size 3 1 v L.length (rowC L) ∧ L.Pairwise (· < ·) ∧ (∀ k, k ∈ L ↔ I64 k ∧ hs k = true) ∧ L.length ≤ n ∧ Below X.heap.size X w' := by
  obtain ⟨D, h1, h2⟩ := h.ex
  have hbl := h1.lt
  have hsz := h1.size_le
  have hown : X.ownsMap Try.prog 3 Rw mb n D := by
    obtain ⟨es, clock, hb, Ft, hs, hD⟩ := h1
    exact ⟨es, clock, by rw [hX]; exact (Below.heap_alloc _ _ mb hbl).trans hb, Ft, hs, hD⟩
  have hseq : SeqGives Fence.wide 2 Try.prog 56 #[.pointer (some ⟨W.heap.size, 0, none⟩)] encZ (fun ss => ss.Perm (intKeys D)) (Maps.size D) X :=
    AnyZI.keys_gives (ρ := Go.Proofs.Try.keysB_ren) { Go.Proofs.Try.keysB with } Fence.wide _ trivial rfl (by omega) W.heap.size mb n D _ (by rw [hX]; simp) (by rw [hX]; simp) hown
  have cS := AnyZI.sorted_in Go.Proofs.Try.sortedA Fence.wide 5 trivial trivial trivial trivial rfl (by omega) (sortsA _) (enters_of Try.func47 (by kernel_rfl) rfl) 56 #[.pointer (some ⟨W.heap.size, 0, none⟩)] trivial (enters_of Try.func56 (by kernel_rfl) rfl) _ _ (by unfold maxLen; omega) (by omega) _ hseq
  change CallsIn _ _ Try.prog 32 _ _ _ at cS
  refine ((callsIn_wide (n := 5)).1 cS).mono ?_
  rintro e w' ⟨v, ss, rfl, hS, hrow, hnil, hb⟩
  have hmem : ∀ k, k ∈ srt ss ↔ I64 k ∧ hs k = true := fun k => by
    rw [srt_mem, hS.mem_iff, (int_keys h1).2.1]
    constructor
    · rintro ⟨x1, x2⟩; exact ⟨x1, by rw [← (h2 k x1).2]; exact x2⟩
    · rintro ⟨x1, x2⟩; exact ⟨x1, by rw [(h2 k x1).2]; exact x2⟩
  have hnd : ss.Nodup := hS.nodup_iff.2 (int_keys h1).1
  refine ⟨v, srt ss, rfl, by rw [srt_len]; exact hrow, ?_, hmem, ?_, hb⟩
  · have h3 := srt_le ss
    have h4 := srt_nod hnd
    exact (List.pairwise_and_iff.2 ⟨h3, h4⟩).imp (fun h => by have := h.1; have := h.2; omega)
  · rw [srt_len, hS.length_eq]
    exact (int_keys h1).2.2
end Go.Proofs.Ytjfabholalnbeab
