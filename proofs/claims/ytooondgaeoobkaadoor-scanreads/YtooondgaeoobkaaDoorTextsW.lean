import Derived.Test.YtooondgaeoobkaaDoorRefT
import Derived.Test.YtooondgaeoobkaaDoorShown
namespace Go.Proofs.YtooondgaeoobkaaDoor
open Go.RowKit
set_option linter.unusedVariables false
set_option linter.unusedSimpArgs false

theorem kindFrom_at (T : List (List UInt8)) : ∀ (n : Nat) (t : List UInt8), kindFrom T n t = 0 ∨ ∃ i, i < T.length ∧ kindFrom T n t = n + i ∧ T.getD i [] = t := by
  induction T with
  | nil => intro n t; exact .inl rfl
  | cons x r ih =>
    intro n t
    simp only [kindFrom]
    split
    · rename_i h
      exact .inr ⟨0, by simp, rfl, by simpa using h⟩
    · rcases ih (n + 1) t with h | ⟨i, h1, h2, h3⟩
      · exact .inl h
      · exact .inr ⟨i + 1, by simp; omega, by omega, by simpa using h3⟩

theorem text_kind (k : Int) (h : textK k ≠ []) : (kindK (textK k) : Int) = k := by
  have hw : ∀ i : Fin 21, kindK (wordsT.getD i []) = 10 + i := by decide
  have hs : ∀ i : Fin 27, kindK (signsT.getD i []) = 40 + i := by decide
  unfold textK at h ⊢
  by_cases h1 : 10 ≤ k ∧ k < 31
  · rw [if_pos h1]
    have := hw ⟨(k - 10).toNat, by omega⟩
    simp only at this
    rw [this]
    omega
  · rw [if_neg h1] at h ⊢
    by_cases h2 : 40 ≤ k ∧ k < 67
    · rw [if_pos h2]
      have := hs ⟨(k - 40).toNat, by omega⟩
      simp only at this
      rw [this]
      omega
    · rw [if_neg h2] at h
      exact absurd rfl h

theorem kind_text (t : List UInt8) (h : kindK t ≠ 0) : textK (kindK t : Int) = t := by
  unfold kindK at h ⊢
  by_cases h1 : wordK t = 0
  · rw [if_pos h1] at h ⊢
    rcases kindFrom_at signsT 40 t with h0 | ⟨i, a1, a2, a3⟩
    · exact absurd h0 h
    · have a1 : i < 27 := a1
      have e : signK t = 40 + i := a2
      rw [e]
      unfold textK
      rw [if_neg (by omega), if_pos (by omega), show (((40 + i : Nat) : Int) - 40).toNat = i by omega]
      exact a3
  · rw [if_neg h1]
    rcases kindFrom_at wordsT 10 t with h0 | ⟨i, a1, a2, a3⟩
    · exact absurd h0 h1
    · have a1 : i < 21 := a1
      have e : wordK t = 10 + i := a2
      rw [e]
      unfold textK
      rw [if_pos (by omega), show (((10 + i : Nat) : Int) - 10).toNat = i by omega]
      exact a3

theorem Kind_l (l : List UInt8) (w : World) (hL : Laid w) : Calls Tryd.prog 10 #[.string ⟨l.toArray⟩] w fun e w' => e = .returned (.int .i64 (kindK l)) ∧ w = w' := by
  have h := Kind_any ⟨l.toArray⟩ w hL.words hL.signs
  rw [ByteArray.toList_eq] at h
  exact h
theorem bytes_eq (s : ByteArray) (l : List UInt8) (h : l = s.toList) : (⟨l.toArray⟩ : ByteArray) = s := by
  apply Go.WideShapes.bytes_inj
  rw [h, ByteArray.toList_eq]

/-- the law, where what is answered is known -/
theorem texts_core (kind : Int) (s : ByteArray) (T : List UInt8) (K : Nat) (w : World) (hL : Laid w) (hK : K ≤ 100)
    (H9 : Box (∀ W, Laid W → Calls Tryd.prog 9 #[.int .i64 kind] W fun e w' => e = .returned (.string ⟨T.toArray⟩) ∧ W = w'))
    (H10 : Box (∀ W, Laid W → Calls Tryd.prog 10 #[.string s] W fun e w' => e = .returned (.int .i64 K) ∧ W = w'))
    (H11 : Box (∀ W, Calls Tryd.prog 11 #[.int .i64 kind] W fun e w' => e = .returned (.string ⟨T.toArray⟩) ∧ Below W.heap.size W w'))
    (H12 : Box (∀ W, Calls Tryd.prog 12 #[.string s] W fun e w' => e = .returned (.int .i64 K) ∧ Below W.heap.size W w'))
    (G10 : Box (T ≠ [] → ∀ W, Laid W → Calls Tryd.prog 10 #[.string ⟨T.toArray⟩] W fun e w' => e = .returned (.int .i64 kind) ∧ W = w'))
    (G9 : Box (K ≠ 0 → ∀ W, Laid W → Calls Tryd.prog 9 #[.int .i64 K] W fun e w' => e = .returned (.string s) ∧ W = w')) :
    Calls Tryd.prog 3 #[.int .i64 kind, .string s] w fun e w' => e = .returned (.bool true) ∧ Below w.heap.size w w' := by
  cases hT : T.isEmpty
  · have HG : ∀ W, Laid W → Calls Tryd.prog 10 #[.string ⟨T.toArray⟩] W fun e w' => e = .returned (.int .i64 kind) ∧ W = w' := G10.out (fun e => by rw [e] at hT; cases hT)
    cases hk : ((K : Int) == 0)
    · have HF : ∀ W, Laid W → Calls Tryd.prog 9 #[.int .i64 K] W fun e w' => e = .returned (.string s) ∧ W = w' := G9.out (fun e => by rw [e] at hk; cases hk)
      go_enter Tryd.func3, Tryd.ntmps3
      go_wp2_with (first
        | (go_at_call 8; refine (shown_any w hL).mono ?_; rintro e w1 ⟨rfl, b1⟩; have L1 := hL.below b1)
        | (go_at_call_of 9 (Value.int IntKind.i64 kind); refine (H9.out _ L1).mono ?_; rintro e w' ⟨rfl, rfl⟩)
        | (go_at_call_of 10 (Value.string s); refine (H10.out _ L1).mono ?_; rintro e w' ⟨rfl, rfl⟩)
        | (go_at_call 11; refine (H11.out _).mono ?_; rintro e w2 ⟨rfl, b2⟩)
        | (go_at_call 12; refine (H12.out _).mono ?_; rintro e w3 ⟨rfl, b3⟩; have L3 := (L1.below b2).below b3)
        | (go_at_call 10; refine (HG _ L3).mono ?_; rintro e w' ⟨rfl, rfl⟩)
        | (go_at_call 9; refine (HF _ L3).mono ?_; rintro e w' ⟨rfl, rfl⟩))
      go_ret
      exact ⟨rfl, (b1.trans (b2.mono b1.size)).trans (b3.mono (Nat.le_trans b1.size b2.size))⟩
    · clear G9 G10
      go_enter Tryd.func3, Tryd.ntmps3
      go_wp2_with (first
        | (go_at_call 8; refine (shown_any w hL).mono ?_; rintro e w1 ⟨rfl, b1⟩; have L1 := hL.below b1)
        | (go_at_call_of 9 (Value.int IntKind.i64 kind); refine (H9.out _ L1).mono ?_; rintro e w' ⟨rfl, rfl⟩)
        | (go_at_call_of 10 (Value.string s); refine (H10.out _ L1).mono ?_; rintro e w' ⟨rfl, rfl⟩)
        | (go_at_call 11; refine (H11.out _).mono ?_; rintro e w2 ⟨rfl, b2⟩)
        | (go_at_call 12; refine (H12.out _).mono ?_; rintro e w3 ⟨rfl, b3⟩; have L3 := (L1.below b2).below b3)
        | (go_at_call 10; refine (HG _ L3).mono ?_; rintro e w' ⟨rfl, rfl⟩))
      go_ret
      exact ⟨rfl, (b1.trans (b2.mono b1.size)).trans (b3.mono (Nat.le_trans b1.size b2.size))⟩
  · cases hk : ((K : Int) == 0)
    · have HF : ∀ W, Laid W → Calls Tryd.prog 9 #[.int .i64 K] W fun e w' => e = .returned (.string s) ∧ W = w' := G9.out (fun e => by rw [e] at hk; cases hk)
      go_enter Tryd.func3, Tryd.ntmps3
      go_wp2_with (first
        | (go_at_call 8; refine (shown_any w hL).mono ?_; rintro e w1 ⟨rfl, b1⟩; have L1 := hL.below b1)
        | (go_at_call_of 9 (Value.int IntKind.i64 kind); refine (H9.out _ L1).mono ?_; rintro e w' ⟨rfl, rfl⟩)
        | (go_at_call_of 10 (Value.string s); refine (H10.out _ L1).mono ?_; rintro e w' ⟨rfl, rfl⟩)
        | (go_at_call 11; refine (H11.out _).mono ?_; rintro e w2 ⟨rfl, b2⟩)
        | (go_at_call 12; refine (H12.out _).mono ?_; rintro e w3 ⟨rfl, b3⟩; have L3 := (L1.below b2).below b3)
        | (go_at_call 9; refine (HF _ L3).mono ?_; rintro e w' ⟨rfl, rfl⟩))
      go_ret
      exact ⟨rfl, (b1.trans (b2.mono b1.size)).trans (b3.mono (Nat.le_trans b1.size b2.size))⟩
    · clear G9 G10
      go_enter Tryd.func3, Tryd.ntmps3
      go_wp2_with (first
        | (go_at_call 8; refine (shown_any w hL).mono ?_; rintro e w1 ⟨rfl, b1⟩; have L1 := hL.below b1)
        | (go_at_call_of 9 (Value.int IntKind.i64 kind); refine (H9.out _ L1).mono ?_; rintro e w' ⟨rfl, rfl⟩)
        | (go_at_call_of 10 (Value.string s); refine (H10.out _ L1).mono ?_; rintro e w' ⟨rfl, rfl⟩)
        | (go_at_call 11; refine (H11.out _).mono ?_; rintro e w2 ⟨rfl, b2⟩)
        | (go_at_call 12; refine (H12.out _).mono ?_; rintro e w3 ⟨rfl, b3⟩; have L3 := (L1.below b2).below b3))
      go_ret
      exact ⟨rfl, (b1.trans (b2.mono b1.size)).trans (b3.mono (Nat.le_trans b1.size b2.size))⟩

theorem kindK_le (t : List UInt8) : kindK t ≤ 100 := by
  have h1 := wordK_le t
  have h2 := signK_le t
  unfold kindK
  split <;> omega
theorem texts_walk (kind : Int) (s : ByteArray) (w : World) (hL : Laid w) : Calls Tryd.prog 3 #[.int .i64 kind, .string s] w fun e w' => e = .returned (.bool true) ∧ Below w.heap.size w w' := by
  refine texts_core kind s (textK kind) (kindK s.toList) w hL (kindK_le _) ⟨fun W h => Text_any kind W h.words h.signs⟩ ⟨fun W h => Kind_any s W h.words h.signs⟩ ⟨fun W => refText_any kind W⟩ ⟨fun W => refKind_any s W⟩ ⟨fun hne W h => ?_⟩ ⟨fun hne W h => ?_⟩
  · have := Kind_l (textK kind) W h
    rw [text_kind kind hne] at this
    exact this
  · have := Text_any (kindK s.toList) W h.words h.signs
    rw [bytes_eq s _ (kind_text s.toList hne)] at this
    exact this
end Go.Proofs.YtooondgaeoobkaaDoor
