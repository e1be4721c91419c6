import Derived.Test.YtijdcplffmdijaaDoorCDEc
namespace Go.Proofs.YtijdcplffmdijaaDoor
open Go.RowKit
set_option linter.unusedVariables false
set_option linter.unusedSimpArgs false

set_option maxRecDepth 100000 in
set_option maxHeartbeats 4000000 in
theorem sameTypes_yes (w : World) (l : List CTy) {n : Nat} (hn : l.length = n) (a1 a2 : Option Addr) (c1 c2 : Nat) (h1 : Row (TyAt w w.heap.size) w.heap.size 3 a1 c1 l) (h2 : Row (TyAt w w.heap.size) w.heap.size 3 a2 c2 l) :
    Calls Tryd.prog 46 #[.slice a1 n c1, .slice a2 n c2] w fun e w' => e = .returned (.bool true) ∧ Below w.heap.size w w' := by
  have hm := h1.max
  have hca1 := h1.cap
  have hca2 := h2.cap
  rw [hn] at hm hca1 hca2
  unfold maxLen at hm
  have HR : Bx (∀ i, i < n → ∃ b1 o1 b2 o2 kd k rs z1 z2 e1 e2, a1 = some ⟨b1, o1, none⟩ ∧ a2 = some ⟨b2, o2, none⟩ ∧ w.cell? ⟨b1, o1 + i * 3, none⟩ = some (.int .i64 kd) ∧ w.cell? ⟨b1, o1 + i * 3 + 1, none⟩ = some (.slice z1 k e1) ∧ w.cell? ⟨b1, o1 + i * 3 + 2, none⟩ = some (.bool rs) ∧ w.cell? ⟨b2, o2 + i * 3, none⟩ = some (.int .i64 kd) ∧ w.cell? ⟨b2, o2 + i * 3 + 1, none⟩ = some (.slice z2 k e2) ∧ w.cell? ⟨b2, o2 + i * 3 + 2, none⟩ = some (.bool rs) ∧ Bx (∀ q, Calls Tryd.prog 19 #[.slice z1 k e1, .slice z2 k e2] (w.drewN q) fun e w' => e = .returned (.bool true) ∧ ∃ m, w' = (w.drewN q).drewN m)) := ⟨fun i h => by
    have hi : i < l.length := by omega
    obtain ⟨b1, o1, e1, hb1, hj1⟩ := h1.at_ (by omega)
    obtain ⟨b2, o2, e2, hb2, hj2⟩ := h2.at_ (by omega)
    obtain ⟨ka1, kc1, p0, p1, p2, p3⟩ := (hj1 i hi).ex
    obtain ⟨ka2, kc2, q0, q1, q2, q3⟩ := (hj2 i hi).ex
    refine ⟨b1, o1, b2, o2, l[i].kind, l[i].kids.length, l[i].res, ka1, ka2, kc1, kc2, e1, e2, p0, p1, p2, q0, q1, q2, ⟨fun q => ?_⟩⟩
    have hd : Below w.heap.size w (w.drewN q) := ⟨rfl, rfl, rfl, Nat.le_refl _, fun _ _ => rfl⟩
    have := sameInts_any (w.drewN q) w.heap.size ka1 ka2 kc1 kc2 l[i].kids l[i].kids (p3.below hd) (q3.below hd)
    simpa using this⟩
  have HE : Bx (∀ k, Below w.heap.size w (w.drewN k)) := ⟨fun k => ⟨rfl, rfl, rfl, Nat.le_refl _, fun _ _ => rfl⟩⟩
  clear h1 h2 hn
  go_enter Tryd.func46, Tryd.ntmps46
  go_wp2
  go_loopw [5] (fun x wr => ∃ i k : Nat, i ≤ n ∧ x = .int .i64 i ∧ wr = w.drewN k) (fun x _ => n - (intOf x).toNat)
  case atStart => exact ⟨0, 0, Nat.zero_le _, rfl, rfl⟩
  case round =>
    obtain ⟨i, kk, hi, rfl, rfl⟩ := hrel
    by_cases hlt : i < n
    · obtain ⟨b1, o1, b2, o2, kd, k, rs, z1, z2, e1, e2, rfl, rfl, p0, p1, p2, q0, q1, q2, HS⟩ := HR.out i hlt
      have HS2 : Bx (∀ q, Calls Tryd.prog 19 #[.slice z1 k e1, .slice z2 k e2] ((w.drewN kk).drewN q) fun e w' => e = .returned (.bool true) ∧ ∃ m, w' = ((w.drewN kk).drewN q).drewN m) := ⟨fun q => by
        have := HS.out (kk + q)
        rw [← World.drewN_drewN] at this
        exact this⟩
      have hwx : ∃ X, X = w.drewN kk := ⟨_, rfl⟩
      obtain ⟨X, hX⟩ := hwx
      have r0 : X.cell? ⟨b1, o1 + i * 3, none⟩ = some (.int .i64 kd) := by rw [hX]; exact p0
      have r1 : X.cell? ⟨b1, o1 + i * 3 + 1, none⟩ = some (.slice z1 k e1) := by rw [hX]; exact p1
      have r2 : X.cell? ⟨b1, o1 + i * 3 + 2, none⟩ = some (.bool rs) := by rw [hX]; exact p2
      have s0 : X.cell? ⟨b2, o2 + i * 3, none⟩ = some (.int .i64 kd) := by rw [hX]; exact q0
      have s1 : X.cell? ⟨b2, o2 + i * 3 + 1, none⟩ = some (.slice z2 k e2) := by rw [hX]; exact q1
      have s2 : X.cell? ⟨b2, o2 + i * 3 + 2, none⟩ = some (.bool rs) := by rw [hX]; exact q2
      have HX : Bx (∀ q, ∃ m, X.drewN q = w.drewN m) := ⟨fun q => ⟨kk + q, by rw [hX, World.drewN_drewN]⟩⟩
      rw [← hX] at HS2 ⊢
      clear HR HS hX p0 p1 p2 q0 q1 q2
      go_wp2
      go_quiet (first | (go_at_call 19; exact Calls.quiet_of (HS2.out _)))
      go_wp2
      obtain ⟨mm, hmm⟩ := HX.out nq
      rw [hmm]
      go_roundw
      case rel => exact ⟨i + 1, mm, by omega, by go_num, rfl⟩
      case measure => simp [intOf]; omega
    · go_wp2
      go_ret
      exact ⟨rfl, HE.out _⟩
end Go.Proofs.YtijdcplffmdijaaDoor
