import Derived.Test.YtfocggaocadkmaaDoorSign
namespace Go.Proofs.YtfocggaocadkmaaDoor
open Go.RowKit
set_option linter.unusedVariables false
set_option linter.unusedSimpArgs false

/-- the tables and the error stand where they were laid -/
structure Laid (w : World) : Prop where
  words : TabAt w 1 wordsT
  signs : TabAt w 0 signsT
  range : ∃ te pe, w.cell? ⟨3, 0, none⟩ = some (.iface te pe)
  size : 3 < w.heap.size
theorem Laid.below {w w' : World} (h : Laid w) (hb : Below w.heap.size w w') : Laid w' := by
  have h3 := h.size
  refine ⟨h.words.below (by omega) hb, h.signs.below (by omega) hb, ?_, by have := hb.size; omega⟩
  obtain ⟨te, pe, hc⟩ := h.range
  exact ⟨te, pe, by rw [hb.cell (by exact h3)]; exact hc⟩

/-- the token that stands at k -/
def nextR (xs : List UInt8) (k : Nat) : Tok × Nat :=
  if wsI ((xs.getD k 0).toNat : Int) = true then wordR xs k else if digI ((xs.getD k 0).toNat : Int) = true then numR xs k else signR xs k

def z4 : Obj := .cells #[.int .i64 0, .int .i64 0, .int .i64 0, .int .i64 0] 44

set_option maxHeartbeats 400000 in
theorem next_word (b o cap : Nat) (n k : Nat) (w : World) (c : Int) (t : Tok) (e0 : Int) (hc : w.cell? ⟨b, o + k, none⟩ = some (.int .u8 c)) (hb : b < w.heap.size) (hl : n ≤ 65536) (hk : k < n) (hw : wsI c = true)
    (HC : Box (∀ o', Calls Tryd.prog 44 #[.slice (some ⟨b, o, none⟩) n cap, .int .i64 k] (w.alloc o') fun e w' => e = .returned (.tuple #[tokV t, .int .i64 e0]) ∧ Below (w.alloc o').heap.size (w.alloc o') w')) :
    Calls Tryd.prog 27 #[.slice (some ⟨b, o, none⟩) n cap, .int .i64 k] w fun e w' => e = .returned (.tuple #[tokV t, .int .i64 e0]) ∧ Below w.heap.size w w' := by
  go_enter Tryd.func27, Tryd.ntmps27
  go_wp2_with (first | (go_at_call 43; refine (isWordStart_any _ _).mono ?_; rintro e w' ⟨rfl, rfl⟩) | (go_at_call 44; refine Calls.mono (HC.out _) ?_; rintro e w1 ⟨rfl, hb1⟩; obtain ⟨hcc, hff⟩ := bcell hb1; have hsz : w.heap.size < w1.heap.size := (by have := hb1.size; simp at this; omega); unfold tokV))
  refine bodyPost_ret (v := .tuple #[tokV t, .int .i64 e0]) (by simp [results, Tryd.results27, go_sem, tokV, hcc, hsz]) rfl ⟨rfl, ?_⟩
  exact ((((((Below.refl _ _).alloc (Nat.le_refl _) _).trans (hb1.mono (by simp))).setCell (Nat.le_refl _) _).setCell (Nat.le_refl _) _).setCell (Nat.le_refl _) _).setCell (Nat.le_refl _) _
set_option maxHeartbeats 400000 in
theorem next_num (b o cap : Nat) (n k : Nat) (w : World) (c : Int) (t : Tok) (e0 : Int) (hc : w.cell? ⟨b, o + k, none⟩ = some (.int .u8 c)) (hb : b < w.heap.size) (hl : n ≤ 65536) (hk : k < n) (hw : wsI c = false) (hd : digI c = true)
    (HC : Box (∀ o', Calls Tryd.prog 46 #[.slice (some ⟨b, o, none⟩) n cap, .int .i64 k] (w.alloc o') fun e w' => e = .returned (.tuple #[tokV t, .int .i64 e0]) ∧ Below (w.alloc o').heap.size (w.alloc o') w')) :
    Calls Tryd.prog 27 #[.slice (some ⟨b, o, none⟩) n cap, .int .i64 k] w fun e w' => e = .returned (.tuple #[tokV t, .int .i64 e0]) ∧ Below w.heap.size w w' := by
  go_enter Tryd.func27, Tryd.ntmps27
  go_wp2_with (first | (go_at_call 45; refine (isDigit_any _ _).mono ?_; rintro e w' ⟨rfl, rfl⟩) | (go_at_call 43; refine (isWordStart_any _ _).mono ?_; rintro e w' ⟨rfl, rfl⟩) | (go_at_call 46; refine Calls.mono (HC.out _) ?_; rintro e w1 ⟨rfl, hb1⟩; obtain ⟨hcc, hff⟩ := bcell hb1; have hsz : w.heap.size < w1.heap.size := (by have := hb1.size; simp at this; omega); unfold tokV))
  refine bodyPost_ret (v := .tuple #[tokV t, .int .i64 e0]) (by simp [results, Tryd.results27, go_sem, tokV, hcc, hsz]) rfl ⟨rfl, ?_⟩
  exact ((((((Below.refl _ _).alloc (Nat.le_refl _) _).trans (hb1.mono (by simp))).setCell (Nat.le_refl _) _).setCell (Nat.le_refl _) _).setCell (Nat.le_refl _) _).setCell (Nat.le_refl _) _
set_option maxHeartbeats 400000 in
theorem next_sign (b o cap : Nat) (n k : Nat) (w : World) (c : Int) (t : Tok) (e0 : Int) (hc : w.cell? ⟨b, o + k, none⟩ = some (.int .u8 c)) (hb : b < w.heap.size) (hl : n ≤ 65536) (hk : k < n) (hw : wsI c = false) (hd : digI c = false)
    (HC : Box (∀ o', Calls Tryd.prog 47 #[.slice (some ⟨b, o, none⟩) n cap, .int .i64 k] (w.alloc o') fun e w' => e = .returned (.tuple #[tokV t, .int .i64 e0]) ∧ Below (w.alloc o').heap.size (w.alloc o') w')) :
    Calls Tryd.prog 27 #[.slice (some ⟨b, o, none⟩) n cap, .int .i64 k] w fun e w' => e = .returned (.tuple #[tokV t, .int .i64 e0]) ∧ Below w.heap.size w w' := by
  go_enter Tryd.func27, Tryd.ntmps27
  go_wp2_with (first | (go_at_call 45; refine (isDigit_any _ _).mono ?_; rintro e w' ⟨rfl, rfl⟩) | (go_at_call 43; refine (isWordStart_any _ _).mono ?_; rintro e w' ⟨rfl, rfl⟩) | (go_at_call 47; refine Calls.mono (HC.out _) ?_; rintro e w1 ⟨rfl, hb1⟩; obtain ⟨hcc, hff⟩ := bcell hb1; have hsz : w.heap.size < w1.heap.size := (by have := hb1.size; simp at this; omega); unfold tokV))
  refine bodyPost_ret (v := .tuple #[tokV t, .int .i64 e0]) (by simp [results, Tryd.results27, go_sem, tokV, hcc, hsz]) rfl ⟨rfl, ?_⟩
  exact ((((((Below.refl _ _).alloc (Nat.le_refl _) _).trans (hb1.mono (by simp))).setCell (Nat.le_refl _) _).setCell (Nat.le_refl _) _).setCell (Nat.le_refl _) _).setCell (Nat.le_refl _) _

theorem next_any (b o cap : Nat) (xs : List UInt8) (k : Nat) (w : World) (hs : Src w b o xs) (hb : b < w.heap.size) (hl : xs.length ≤ 65536) (hcap : xs.length ≤ cap) (hk : k < xs.length) (hL : Laid w) :
    Calls Tryd.prog 27 #[.slice (some ⟨b, o, none⟩) xs.length cap, .int .i64 k] w fun e w' => e = .returned (.tuple #[tokV (nextR xs k).1, .int .i64 (nextR xs k).2]) ∧ Below w.heap.size w w' := by
  have hml : xs.length ≤ maxLen := by unfold maxLen; omega
  have hbl : ∀ o', Below w.heap.size w (w.alloc o') := fun o' => (Below.refl _ _).alloc (Nat.le_refl _) _
  have hc : w.cell? ⟨b, o + k, none⟩ = some (.int .u8 ((xs.getD k 0).toNat : Int)) := by
    rw [hs k hk]; simp [List.getD, hk]
  have hg : xs.getD k 0 = xs[k] := by simp [List.getD, hk]
  have hR : nextR xs k = if wsI ((xs.getD k 0).toNat : Int) = true then wordR xs k else if digI ((xs.getD k 0).toNat : Int) = true then numR xs k else signR xs k := rfl
  have hb' : ∀ o', b < (w.alloc o').heap.size := fun o' => by have := (hbl o').size; omega
  cases hw : wsI ((xs.getD k 0).toNat : Int)
  · rw [if_neg (by rw [hw]; simp)] at hR
    cases hd : digI ((xs.getD k 0).toNat : Int)
    · rw [if_neg (by rw [hd]; simp)] at hR
      rw [hR]
      refine next_sign b o cap xs.length k w _ _ _ hc hb hl hk hw hd ⟨fun o' => ?_⟩
      have hL' := hL.below (hbl o')
      have := hL'.size
      exact sign_loop b o cap xs k _ (hs.below hb (hbl o')) (hb' o') hml hcap hk hL'.signs (by omega)
    · rw [if_pos hd] at hR
      rw [hR]
      refine next_num b o cap xs.length k w _ _ _ hc hb hl hk hw hd ⟨fun o' => ?_⟩
      have hL' := hL.below (hbl o')
      obtain ⟨te, pe, h3⟩ := hL'.range
      refine number_any b o cap xs k _ (hs.below hb (hbl o')) (hb' o') hl hcap ?_ te pe hL'.size h3
      rw [spanTo_yes _ _ _ hk (by rw [← hg]; exact hd)]
      have := (spanTo_le digI xs (k + 1) (by omega)).1
      omega
  · rw [if_pos hw] at hR
    rw [hR]
    refine next_word b o cap xs.length k w _ _ _ hc hb hl hk hw ⟨fun o' => ?_⟩
    have hL' := hL.below (hbl o')
    have := hL'.size
    refine word_any b o cap xs k _ (hs.below hb (hbl o')) (hb' o') hml hcap ?_ hL'.words (by omega)
    rw [spanTo_yes _ _ _ hk (by rw [← hg]; unfold wbI; rw [hw]; rfl)]
    have := (spanTo_le wbI xs (k + 1) (by omega)).1
    omega

theorem prefix_len (s l : List UInt8) (h : s.isPrefixOf l = true) : s.length ≤ l.length := (List.isPrefixOf_iff_prefix.1 h).length_le
theorem bestFrom_le (l : List UInt8) : ∀ (T : List (List UInt8)) (n : Nat) (acc : Nat × Nat), acc.2 ≤ l.length → (bestFrom T n acc l).2 ≤ l.length
  | [], n, acc, h => h
  | s :: r, n, acc, h => by
    simp only [bestFrom]
    apply bestFrom_le l r
    by_cases hc : acc.2 < s.length ∧ s.isPrefixOf l = true
    · rw [if_pos hc]; exact prefix_len s l hc.2
    · rw [if_neg hc]; exact h

theorem nextR_len (xs : List UInt8) (k : Nat) (hk : k < xs.length) (h : (nextR xs k).2 = 0) : 1 ≤ (nextR xs k).1.len ∧ k + (nextR xs k).1.len ≤ xs.length := by
  have hg : xs.getD k 0 = xs[k] := by simp [List.getD, hk]
  have hR : nextR xs k = if wsI ((xs.getD k 0).toNat : Int) = true then wordR xs k else if digI ((xs.getD k 0).toNat : Int) = true then numR xs k else signR xs k := rfl
  cases hw : wsI ((xs.getD k 0).toNat : Int)
  · rw [if_neg (by rw [hw]; simp)] at hR
    cases hd : digI ((xs.getD k 0).toNat : Int)
    · rw [if_neg (by rw [hd]; simp)] at hR
      rw [hR] at h ⊢
      have hle := bestFrom_le (xs.drop k) signsT 40 (0, 0) (Nat.zero_le _)
      simp only [List.length_drop] at hle
      unfold signR at h ⊢
      by_cases h0 : (bestS (xs.drop k)).2 = 0
      · rw [if_pos h0] at h; simp at h
      · rw [if_neg h0]
        unfold bestS at h0 ⊢
        exact ⟨by simp only; omega, by simp only; omega⟩
    · rw [if_pos hd] at hR
      rw [hR] at h ⊢
      have h1 : k < spanTo digI xs k := by
        rw [spanTo_yes _ _ _ hk (by rw [← hg]; exact hd)]
        have := (spanTo_le digI xs (k + 1) (by omega)).1
        omega
      have h2 := (spanTo_le digI xs k (by omega)).2
      unfold numR at h ⊢
      generalize spanTo digI xs k = E at *
      split at h
      · simp at h
      · rename_i n1
        split at h
        · simp at h
        · rename_i n2
          split at h
          · rename_i n3
            rw [if_neg n1, if_neg n2, if_pos n3]
            exact ⟨by simp only; omega, by simp only; omega⟩
          · simp at h
  · rw [if_pos hw] at hR
    rw [hR] at h ⊢
    have h1 : k < spanTo wbI xs k := by
      rw [spanTo_yes _ _ _ hk (by rw [← hg]; unfold wbI; rw [hw]; rfl)]
      have := (spanTo_le wbI xs (k + 1) (by omega)).1
      omega
    have h2 := (spanTo_le wbI xs k (by omega)).2
    unfold wordR at h ⊢
    generalize spanTo wbI xs k = E at *
    split at h
    · rename_i n1
      rw [if_pos n1]
      exact ⟨by simp only; omega, by simp only; omega⟩
    · rename_i n1
      split at h
      · simp at h
      · rename_i n2
        rw [if_neg n1, if_neg n2]
        exact ⟨by simp only; omega, by simp only; omega⟩
end Go.Proofs.YtfocggaocadkmaaDoor
