import Derived.Test.YtecpknpcjoiliabDoorCUI
namespace Go.Proofs.YtecpknpcjoiliabDoor
open Go.RowKit
set_option linter.unusedVariables false
set_option linter.unusedSimpArgs false

def reapG (C : Array Value) (line : List UInt8) : Got (Array Value) Int := match reapL line with
  | .no c => .no c
  | .yes b => .yes (C.setIfInBounds 7 (.bool b))
theorem reapG_no {C : Array Value} {line : List UInt8} (h : (pieces 32 line).1 ≠ keepW) (h2 : (pieces 32 line).1 ≠ reapW) : reapG C line = .no 170 := by
  unfold reapG reapL
  rw [if_neg (by rintro (e | e); exact h e; exact h2 e)]
theorem reapG_keep {C : Array Value} {line : List UInt8} (h : (pieces 32 line).1 = keepW) : reapG C line = numG (C.setIfInBounds 7 (.bool false)) 0 0 (pieces 32 line).2 := by
  unfold reapG reapL numG
  rw [if_pos (Or.inl h), h]
  cases hq : numsP 0 (pieces 32 line).2 with
  | none => rfl
  | some l =>
    obtain ⟨_, h2, _⟩ := numsP_some hq
    have : l = [] := List.eq_nil_of_length_eq_zero h2
    subst this
    rfl
theorem reapG_reap {C : Array Value} {line : List UInt8} (h : (pieces 32 line).1 = reapW) : reapG C line = numG (C.setIfInBounds 7 (.bool true)) 0 0 (pieces 32 line).2 := by
  unfold reapG reapL numG
  rw [if_pos (Or.inr h), h]
  cases hq : numsP 0 (pieces 32 line).2 with
  | none => rfl
  | some l =>
    obtain ⟨_, h2, _⟩ := numsP_some hq
    have : l = [] := List.eq_nil_of_length_eq_zero h2
    subst this
    rfl
set_option maxRecDepth 100000 in
set_option maxHeartbeats 2000000 in
theorem reap_no (w : World) (rb sb k : Nat) (nx : Value) (rest : List UInt8) (C : Array Value) (hsb : w.heap[sb]? = some (.cells C 31 (0, 0))) (hne : rb ≠ sb) (hC : ScF C) (h : RS w rb k nx rest) (h10 : (10 : UInt8) ∉ rest) (hk : k ≤ 1152921504606846976) (r : List UInt8) :
    Calls Tryd.prog 19 #[.pointer (some ⟨rb, 0, none⟩), .pointer (some ⟨sb, 7, none⟩)] w fun e w' => ∃ v, e = .returned v ∧ Bx (StP w rb sb (k + 1) r (.no 170) v w') := by
  have HBG : Bx _ := ⟨begin_no w rb k nx rest h h10 hk⟩
  obtain ⟨Q0, hQ0⟩ : ∃ Q, Q = StP w rb sb (k + 1) r (.no 170) := ⟨_, rfl⟩
  have HQ : Bx (∀ w', Kx (fun x => x = rb) w w' → Q0 (wrV (k + 1) 170) w') := ⟨fun w' h => by rw [hQ0]; exact ⟨(Kx.refl (fun x => x = rb ∨ x = sb) w).trans h fun _ _ h => Or.inl h, rfl, C, hC, h.at_ hsb (fun e => hne e.symm)⟩⟩
  rw [← hQ0]
  clear hQ0 h h10
  go_enter Tryd.func19, Tryd.ntmps19
  go_wp2_with (go_at_call 29; refine HBG.out.mono ?_; rintro e w1 ⟨rfl, hk1⟩; have H1 : Bx _ := ⟨HQ.out w1 hk1⟩; clear hk1)
  go_ret
  exact ⟨_, rfl, H1⟩
set_option maxRecDepth 100000 in
set_option maxHeartbeats 4000000 in
theorem reap_word (w : World) (B rb sb k : Nat) (nx : Value) (line rest : List UInt8) (C : Array Value) (b : Bool) (h : RS w rb k nx (line ++ 10 :: rest)) (h10 : (10 : UInt8) ∉ line) (hk : k ≤ 1152921504606846976) (hlen : (line ++ 10 :: rest).length ≤ 281474976710656)
    (hL : LB B w) (hB : B ≤ w.heap.size) (hrb : B ≤ rb) (hsB : B ≤ sb) (hsb : w.heap[sb]? = some (.cells C 31 (0, 0))) (hne : rb ≠ sb) (hC : ScF C) (hwd : (pieces 32 line).1 = if b then reapW else keepW) :
    Calls Tryd.prog 19 #[.pointer (some ⟨rb, 0, none⟩), .pointer (some ⟨sb, 7, none⟩)] w fun e w' => ∃ v, e = .returned v ∧ Bx (StP w rb sb (k + 1) rest (numG (C.setIfInBounds 7 (.bool b)) 0 0 (pieces 32 line).2) v w') := by
  have HBG : Bx _ := ⟨begin_yes w rb k nx line rest h h10 hk hlen⟩
  have hrw := heap_lt h
  have hsw := heap_lt hsb
  rw [hwd] at HBG
  obtain ⟨Q0, hQ0⟩ : ∃ Q, Q = StP w rb sb (k + 1) rest (numG (C.setIfInBounds 7 (.bool b)) 0 0 (pieces 32 line).2) := ⟨_, rfl⟩
  have HN : Bx (∀ w1, BgP w rb (k + 1) rest (pieces 32 line).2 w1 → Calls Tryd.prog 31 #[.pointer (some ⟨rb, 0, none⟩), .slice none 0 0] (w1.setCell ⟨sb, 7, none⟩ (.bool b)) fun e w' => ∃ v, e = .returned v ∧ Bx (Q0 v w')) := ⟨fun w1 hb => by
    rw [hQ0]
    have hs1 := hb.kx.at_ hsb (by omega)
    exact num_step hb (Kx.set (P := fun x => x = sb) w1 7 (.bool b) rfl) hL hB hrb hsB hrw hsw hne (Lib.heap_setCell_same (i := 7) hs1 (.bool b)) (by simp) (by omega) (fun l' h => by have e : l' = [] := List.eq_nil_of_length_eq_zero (by omega); subst e; exact hC.reap b) fun h0 => absurd h0 (by omega)⟩
  obtain ⟨ov, hov⟩ : ∃ ov, C[7]? = some ov := ⟨_, Array.getElem?_eq_getElem (by have := hC.size; omega)⟩
  have HT : Bx (∀ w1, BgP w rb (k + 1) rest (pieces 32 line).2 w1 → w1.cell? ⟨sb, 7, none⟩ = some ov ∧ w1.frozen? ⟨sb, 7, none⟩ = false) := ⟨fun w1 hb => ⟨cell_blk (hb.kx.at_ hsb (by omega)) hov, frz_blk (hb.kx.at_ hsb (by omega))⟩⟩
  rw [← hQ0]
  clear hQ0 h h10 hlen hwd hL hsb hov
  generalize (pieces 32 line).2 = P at *
  cases b
  all_goals
    simp only [Bool.false_eq_true, if_false, if_true, keepW, reapW] at HBG
    go_enter Tryd.func19, Tryd.ntmps19
    go_wp2_with (first
      | (go_at_call 29; refine HBG.out.mono ?_; rintro e w1 ⟨rfl, H1⟩; obtain ⟨t1, t2⟩ := HT.out w1 H1.out)
      | (go_at_call 31; refine (HN.out w1 H1.out).mono ?_; rintro e w2 ⟨v2, rfl, H2⟩))
    go_ret
    exact ⟨_, rfl, H2⟩
set_option maxRecDepth 100000 in
set_option maxHeartbeats 4000000 in
theorem reap_yes (w : World) (B rb sb k : Nat) (nx : Value) (line rest : List UInt8) (C : Array Value) (h : RS w rb k nx (line ++ 10 :: rest)) (h10 : (10 : UInt8) ∉ line) (hk : k ≤ 1152921504606846976) (hlen : (line ++ 10 :: rest).length ≤ 281474976710656)
    (hL : LB B w) (hB : B ≤ w.heap.size) (hrb : B ≤ rb) (hsB : B ≤ sb) (hsb : w.heap[sb]? = some (.cells C 31 (0, 0))) (hne : rb ≠ sb) (hC : ScF C) :
    Calls Tryd.prog 19 #[.pointer (some ⟨rb, 0, none⟩), .pointer (some ⟨sb, 7, none⟩)] w fun e w' => ∃ v, e = .returned v ∧ Bx (StP w rb sb (k + 1) rest (reapG C line) v w') := by
  by_cases h1 : (pieces 32 line).1 = keepW
  · rw [reapG_keep h1]
    exact reap_word w B rb sb k nx line rest C false h h10 hk hlen hL hB hrb hsB hsb hne hC h1
  · by_cases h2 : (pieces 32 line).1 = reapW
    · rw [reapG_reap h2]
      exact reap_word w B rb sb k nx line rest C true h h10 hk hlen hL hB hrb hsB hsb hne hC h2
    · rw [reapG_no h1 h2]
      have HBG : Bx _ := ⟨begin_yes w rb k nx line rest h h10 hk hlen⟩
      have HW : Bx (∀ w1, BgP w rb (k + 1) rest (pieces 32 line).2 w1 → Calls Tryd.prog 30 #[.pointer (some ⟨rb, 0, none⟩), .int .i64 170] w1 fun e w' => ∃ v, e = .returned v ∧ Bx (StP w rb sb (k + 1) rest (.no 170) v w')) := ⟨fun w1 hb => wr_step hb hsb hne hC 170 rest⟩
      obtain ⟨Q0, hQ0⟩ : ∃ Q, Q = StP w rb sb (k + 1) rest (.no 170) := ⟨_, rfl⟩
      rw [← hQ0] at HW ⊢
      clear hQ0 h h10 hlen hL hsb
      have a2 : ((pieces 32 line).1 == [107, 101, 101, 112]) = false := by simpa [keepW] using h1
      have a3 : ¬ (pieces 32 line).1 = [107, 101, 101, 112] := h1
      have b2 : ((pieces 32 line).1 == [114, 101, 97, 112]) = false := by simpa [reapW] using h2
      have b3 : ¬ (pieces 32 line).1 = [114, 101, 97, 112] := h2
      generalize (pieces 32 line).2 = P at *
      generalize (pieces 32 line).1 = wd at *
      clear h1 h2
      go_enter Tryd.func19, Tryd.ntmps19
      go_wp2_with (first
        | (go_at_call 29; refine HBG.out.mono ?_; rintro e w1 ⟨rfl, H1⟩)
        | (go_at_call 30; refine (HW.out w1 H1.out).mono ?_; rintro e w2 ⟨v2, rfl, H2⟩))
      go_ret
      exact ⟨_, rfl, H2⟩
end Go.Proofs.YtecpknpcjoiliabDoor
