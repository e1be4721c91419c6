import Derived.Test.YtecpknpcjoiliaaDoorCJK
namespace Go.Proofs.YtecpknpcjoiliaaDoor
open Go.RowKit
set_option linter.unusedVariables false
set_option linter.unusedSimpArgs false

/-- an event as a value, with whatever list -/
abbrev evW8 (e : Ev) (v : Value) : Value := .agg #[.int .i64 e.kind, .int .i64 e.p, .int .i64 e.i, .int .i64 e.q, .int .i64 e.j, .int .i64 e.c, .int .i64 e.num, v]
/-- the places as a value -/
def plA (e : Ev) : Value := .agg #[.int .i64 e.p, .int .i64 e.i, .int .i64 e.q, .int .i64 e.j, .int .i64 e.c]
theorem plA_i0 (e : Ev) (W : World) : (Instr.index 63 (plA e) (.int .i64 0)).run Tryd.prog W = .ok (.int .i64 e.p) W := by kernel_rfl
theorem plA_i1 (e : Ev) (W : World) : (Instr.index 63 (plA e) (.int .i64 1)).run Tryd.prog W = .ok (.int .i64 e.i) W := by kernel_rfl
theorem plA_i2 (e : Ev) (W : World) : (Instr.index 63 (plA e) (.int .i64 2)).run Tryd.prog W = .ok (.int .i64 e.q) W := by kernel_rfl
theorem plA_i3 (e : Ev) (W : World) : (Instr.index 63 (plA e) (.int .i64 3)).run Tryd.prog W = .ok (.int .i64 e.j) W := by kernel_rfl
theorem plA_i4 (e : Ev) (W : World) : (Instr.index 63 (plA e) (.int .i64 4)).run Tryd.prog W = .ok (.int .i64 e.c) W := by kernel_rfl
theorem plA_ix (e : Ev) (k : Nat) (hk : k < 5) (W : World) : (Instr.index 63 (plA e) (.int .i64 (k : Nat))).run Tryd.prog W = .ok (.int .i64 ((plL e).getD k 0)) W := by
  match k, hk with
  | 0, _ => exact plA_i0 e W
  | 1, _ => exact plA_i1 e W
  | 2, _ => exact plA_i2 e W
  | 3, _ => exact plA_i3 e W
  | 4, _ => exact plA_i4 e W
theorem bit_eq : ∀ has : Nat, has < 32 → ∀ k, k < 5 → (bits BinOp.and IntKind.i64 ((has : Int) / 2 ^ k) 1 == 1) = hasB has k := by decide +kernel
theorem ret_bool {a b : Bool} (h : a = b) : Ending.returned (.bool a) = .returned (.bool b) := by rw [h]
set_option maxRecDepth 100000 in
set_option maxHeartbeats 1000000 in
theorem hasPlace_any (s : TSh) (k : Nat) (w : World) (hs : s.2.1 < 32) (hk : k < 5) :
    Calls Tryd.prog 40 #[shV s, .int .i64 k] w fun e w' => e = .returned (.bool (hasB s.2.1 k)) ∧ Below w.heap.size w w' := by
  obtain ⟨wd, has, tail⟩ := s
  simp only [] at hs ⊢
  go_enter Tryd.func40, Tryd.ntmps40
  go_wp2
  go_ret
  exact ⟨ret_bool (bit_eq has hs k hk), below1 _ _⟩
set_option maxRecDepth 100000 in
set_option maxHeartbeats 1000000 in
theorem placesOf_any (e : Ev) (v : Value) (hv : v.oneCell' = true) (w : World) :
    Calls Tryd.prog 39 #[evW8 e v] w fun e' w' => e' = .returned (plA e) ∧ Below w.heap.size w w' := by
  go_enter Tryd.func39, Tryd.ntmps39
  go_wp2
  refine bodyPost_ret (v := .agg #[.int .i64 e.p, .int .i64 e.i, .int .i64 e.q, .int .i64 e.j, .int .i64 e.c]) (by simp [results, Tryd.results39, go_sem]) rfl ⟨rfl, ?_⟩
  exact (below1 _ _).alloc (by simp) _
set_option maxRecDepth 100000 in
set_option maxHeartbeats 1000000 in
theorem rises_any (w : World) (a : Option Addr) (cap : Nat) (ks : List Int) (hi : IntsV w w.heap.size a cap ks) :
    Calls Tryd.prog 41 #[.slice a ks.length cap] w fun e w' => e = .returned (.bool (risF (-1) ks)) ∧ w' = w := by
  have hmax := hi.max
  unfold maxLen at hmax
  obtain ⟨R, hR⟩ : ∃ R, R = risF (-1) ks := ⟨_, rfl⟩
  rw [← hR]
  have HR : Bx (R = risF (-1) ks) := ⟨hR⟩
  have HI : Bx _ := ⟨hi⟩
  clear hR hi
  go_enter Tryd.func41, Tryd.ntmps41
  go_wp2
  go_loopw [8, 3] (fun x y wr => ∃ (k : Nat) (last : Int), k ≤ ks.length ∧ x = .int .i64 k ∧ y = .int .i64 last ∧ wr = w ∧ Bx (risF last (ks.drop k) = R)) (fun x _ _ => ks.length - (intOf x).toNat)
  case atStart => exact ⟨0, -1, Nat.zero_le _, rfl, rfl, rfl, ⟨HR.out.symm⟩⟩
  case round =>
    obtain ⟨k, last, hk, rfl, rfl, rfl, H⟩ := hrel
    by_cases hlt : k < ks.length
    · obtain ⟨b, o, rfl, hb, hc⟩ := HI.out.at_ (by omega)
      have c := hc k hlt
      have hd : ks.drop k = ks[k] :: ks.drop (k + 1) := List.drop_eq_getElem_cons hlt
      have hS := H.out
      rw [hd, risF] at hS
      by_cases hle : ks[k] ≤ last
      · have hRf : R = false := by rw [← hS, decide_eq_false (by omega)]; rfl
        clear hc hd hS H HR
        subst hRf
        generalize ks[k] = x at *
        go_wp2
        go_ret
        exact ⟨rfl, rfl⟩
      · have hS2 : Bx (risF ks[k] (ks.drop (k + 1)) = R) := ⟨by rw [← hS, decide_eq_true (by omega)]; rfl⟩
        have hle2 : last < ks[k] := by omega
        clear hc hd hS H
        generalize ks[k] = x at *
        go_wp2
        go_roundw
        case rel => exact ⟨k + 1, x, by omega, by go_num, rfl, by first | rfl | trivial, hS2⟩
        case measure => simp [intOf]; omega
    · have hke : k = ks.length := by omega
      subst hke
      have hRt : R = true := by have := H.out; rw [List.drop_length] at this; exact this.symm
      subst hRt
      go_wp2
      go_ret
      exact ⟨rfl, rfl⟩
/-- the words for Num, in memory -/
structure NwV (w w' : World) (v : Value) (tail : Nat) : Prop where
  bel : Below w.heap.size w w'
  val : (nwords tail = [] ∧ v = .slice none 0 0) ∨ (v = .slice (some ⟨w.heap.size, 0, none⟩) (nwords tail).length (nwords tail).length ∧ w' = w.alloc (.cells ((nwords tail).map strV).toArray 9))
set_option maxRecDepth 100000 in
set_option maxHeartbeats 1000000 in
theorem numWords_any (tail : Nat) (w : World) :
    Calls Tryd.prog 42 #[.int .i64 tail] w fun e w' => ∃ v, e = .returned v ∧ NwV w w' v tail := by
  by_cases h2 : tail = 2
  · subst h2
    go_enter Tryd.func42, Tryd.ntmps42
    go_wp2
    go_ret
    exact ⟨_, rfl, ⟨below1 _ _, .inr ⟨rfl, rfl⟩⟩⟩
  · by_cases h3 : tail = 3
    · subst h3
      go_enter Tryd.func42, Tryd.ntmps42
      go_wp2
      go_ret
      exact ⟨_, rfl, ⟨below1 _ _, .inr ⟨rfl, rfl⟩⟩⟩
    · have e2 : ¬ (tail : Int) = 2 := by omega
      have e3 : ¬ (tail : Int) = 3 := by omega
      have f2 : ((tail : Int) == 2) = false := by simpa using e2
      have f3 : ((tail : Int) == 3) = false := by simpa using e3
      go_enter Tryd.func42, Tryd.ntmps42
      go_wp2
      go_ret
      exact ⟨_, rfl, ⟨Below.refl _ _, .inl ⟨by unfold nwords; rw [if_neg h2, if_neg h3], rfl⟩⟩⟩
end Go.Proofs.YtecpknpcjoiliaaDoor
