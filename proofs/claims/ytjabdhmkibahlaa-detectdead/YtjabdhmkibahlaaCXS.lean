import Derived.Test.YtjabdhmkibahlaaCXLa
namespace Go.Proofs.Ytjabdhmkibahlaa
open Go.RowKit
set_option linter.unusedVariables false
set_option linter.unusedSimpArgs false

/-- two structs that were copied, one behind the other -/
theorem two_ag (w wr : World) (a0 a1 a2 a3 b0 b1 b2 b3 : Value) (hb : Below w.heap.size w wr) (X : World) (h : ((wr.alloc (.cells #[a0, a1, a2, a3] 53)).alloc (.cells #[b0, b1, b2, b3] 53)).drew = X) :
    (∀ V, Below X.heap.size X V → (V.cell? ⟨wr.heap.size, 0, none⟩ = some a0 ∧ V.cell? ⟨wr.heap.size, 1, none⟩ = some a1 ∧ V.cell? ⟨wr.heap.size, 2, none⟩ = some a2 ∧ V.cell? ⟨wr.heap.size, 3, none⟩ = some a3) ∧ (V.cell? ⟨wr.heap.size + 1, 0, none⟩ = some b0 ∧ V.cell? ⟨wr.heap.size + 1, 1, none⟩ = some b1 ∧ V.cell? ⟨wr.heap.size + 1, 2, none⟩ = some b2 ∧ V.cell? ⟨wr.heap.size + 1, 3, none⟩ = some b3)) ∧ Below w.heap.size w X := by
  obtain ⟨Y, hY⟩ : ∃ Y, wr.alloc (.cells #[a0, a1, a2, a3] 53) = Y := ⟨_, rfl⟩
  have hs : Y.heap.size = wr.heap.size + 1 := by rw [← hY]; simp
  have h1 : Y.heap[wr.heap.size]? = some (.cells #[a0, a1, a2, a3] 53 (0, 0)) := by rw [← hY]; exact World.alloc_heap_new _ _
  have h2 : (Y.alloc (.cells #[b0, b1, b2, b3] 53)).heap[wr.heap.size + 1]? = some (.cells #[b0, b1, b2, b3] 53 (0, 0)) := by rw [← hs]; exact World.alloc_heap_new _ _
  have h3 : (Y.alloc (.cells #[b0, b1, b2, b3] 53)).heap[wr.heap.size]? = some (.cells #[a0, a1, a2, a3] 53 (0, 0)) := by rw [Below.heap_alloc _ _ _ (by omega)]; exact h1
  rw [hY] at h
  refine ⟨fun V hV => ?_, ?_⟩
  · have e1 : V.heap[wr.heap.size]? = some (.cells #[a0, a1, a2, a3] 53 (0, 0)) := by
      rw [hV.block _ (by rw [← h]; show _ < (Y.alloc _).heap.size; simp; omega), ← h]; exact h3
    have e2 : V.heap[wr.heap.size + 1]? = some (.cells #[b0, b1, b2, b3] 53 (0, 0)) := by
      rw [hV.block _ (by rw [← h]; show _ < (Y.alloc _).heap.size; simp; omega), ← h]; exact h2
    exact ⟨⟨cell_of e1 rfl, cell_of e1 rfl, cell_of e1 rfl, cell_of e1 rfl⟩, cell_of e2 rfl, cell_of e2 rfl, cell_of e2 rfl, cell_of e2 rfl⟩
  · rw [← h]
    refine hb.trans ?_
    have : Below wr.heap.size wr (Y.alloc (.cells #[b0, b1, b2, b3] 53)) := by rw [← hY]; exact two_new _ _ _
    exact (this.drew).mono hb.size
set_option maxRecDepth 100000 in
set_option maxHeartbeats 4000000 in
theorem still7_any (w : World) (ga c : Nat) (s : List Ag) (ho : Own7 w ga c s) (p : Option Addr) (cap : Nat) (hp : AgsR w p cap s) (hs : s.length ≤ 2147483647) (hll : ∀ i (h : i < s.length), s[i].arms.length ≤ 2147483647 ∧ s[i].held.length ≤ 2147483647) :
    Calls Try.prog 31 #[.slice (some ⟨ga, 0, none⟩) s.length c, .slice p s.length cap] w fun e w' => e = .returned (.bool true) ∧ Below w.heap.size w w' := by
  have hpl := hp.len
  have hpm := hp.max
  have hca := ho.cap
  have hcm := ho.max
  unfold maxLen at hpm hcm
  have m0 := ho.mark w (Below.refl _ _)
  have HO : Bx _ := ⟨ho⟩
  have HP : Bx _ := ⟨hp⟩
  have HT : Bx _ := ⟨hll⟩
  have j1 : (0 : Int) ≤ (s.length : Int) := by omega
  have j2 : (s.length : Int) ≤ (s.length : Int) + 1 := by omega
  have j3 : (s.length : Int) + 1 ≤ (c : Int) := by omega
  have j4 : (s.length : Int) < (s.length : Int) + 1 := by omega
  clear ho hp hll
  go_enter Try.func31, Try.ntmps31
  go_wp2
  clear m0
  go_loopg [24] (s.length + 1) (fun g v24 wr => ∃ i : Nat, g = s.length + 1 - i ∧ i ≤ s.length ∧ v24 = .int .i64 i ∧ Bx (Below w.heap.size w wr))
  case atStart => exact ⟨0, by simp, by omega, rfl, ⟨Below.refl _ _⟩⟩
  case round =>
    obtain ⟨i, hg, hil, rfl, HR⟩ := hrel
    by_cases hlt : i < s.length
    · obtain ⟨b, o, ap, ac, hp, hc, rfl, hA, hcl⟩ := HP.out.at_ i hlt
      obtain ⟨g1, c1, g2, c2, hA2, q1, q2, q3, q4, hcl2⟩ := HO.out.at_ i hlt
      obtain ⟨l1, l2⟩ := HT.out i hlt
      unfold maxLen at q3 q4
      have H1 : Bx (∀ V, Below w.heap.size w V → _) := ⟨hcl⟩
      have H2 : Bx (∀ V, Below w.heap.size w V → _) := ⟨hcl2⟩
      have HN : Bx (∀ V, Below w.heap.size w V → Calls Try.prog 29 #[.slice (some ⟨g2, 0, none⟩) s[i].held.length c2, .slice hp s[i].held.length hc] V fun e w' => e = .returned (.bool true) ∧ ∃ k, w' = V.drewN k) := ⟨fun V hV => numbers_yes V _ _ _ _ s[i].held (hA2.held.later hV) (hA.held.later hV)⟩
      have HHd : Bx (∀ j, j < s[i].arms.length → ∃ (ch : Int) (sd : Bool) (b2 o2 : Nat), ap = some ⟨b2, o2, none⟩ ∧ ∀ V, Below w.heap.size w V → V.cell? ⟨g1, j * 2, none⟩ = some (.int .i64 ch) ∧ V.cell? ⟨g1, j * 2 + 1, none⟩ = some (.bool sd) ∧ V.cell? ⟨b2, o2 + j * 2, none⟩ = some (.int .i64 ch) ∧ V.cell? ⟨b2, o2 + j * 2 + 1, none⟩ = some (.bool sd)) := ⟨fun j hj => by
        obtain ⟨b2, o2, e2, _, hh⟩ := hA.arms.at_ j hj
        obtain ⟨b3, o3, e3, _, hh3⟩ := hA2.arms.at_ j hj
        cases e3
        refine ⟨s[i].arms[j].chan, s[i].arms[j].send, b2, o2, e2, fun V hV => ?_⟩
        obtain ⟨z0, z1⟩ := hh V hV
        obtain ⟨z2, z3⟩ := hh3 V hV
        rw [Nat.zero_add] at z2 z3
        exact ⟨z2, z3, z0, z1⟩⟩
      have hal := hA.arms.len
      have ham := hA.arms.max
      unfold maxLen at ham
      have hiI : (i : Int) < (s.length : Int) := by omega
      have hi0 : (0 : Int) ≤ (i : Int) := by omega
      clear hA hA2 hcl hcl2 HP HO HT
      generalize s[i] = a at *
      obtain ⟨n, hn⟩ : ∃ n, n = a.arms.length := ⟨_, rfl⟩
      obtain ⟨m, hm⟩ : ∃ m, m = a.held.length := ⟨_, rfl⟩
      rw [← hn] at H1 H2 HHd q1 l1 hal
      rw [← hm] at H1 H2 HN q2 l2
      obtain ⟨c0, c1', c2', c3'⟩ := H1.out wr HR.out
      obtain ⟨d0, d1, d2, d3, _⟩ := H2.out wr HR.out
      have HNM : Bx (n = a.arms.length ∧ m = a.held.length) := ⟨hn, hm⟩
      clear hn hm
      obtain ⟨aid, aaw, aarms, aheld⟩ := a
      simp only at *
      have n1 := World.new_ne wr _ d0
      go_wp2_with fail
      go_region_held3 (fun w' => w'.cell? ⟨ga, i * 4, none⟩ = some (.int .i64 aid) ∧ w'.cell? ⟨ga, i * 4 + 1, none⟩ = some (.bool aaw) ∧ w'.cell? ⟨ga, i * 4 + 2, none⟩ = some (.slice (some ⟨g1, 0, none⟩) n c1) ∧ w'.cell? ⟨ga, i * 4 + 3, none⟩ = some (.slice (some ⟨g2, 0, none⟩) m c2) ∧ w'.cell? ⟨wr.heap.size, 2, none⟩ = some (.slice ap n ac) ∧ w'.cell? ⟨wr.heap.size, 3, none⟩ = some (.slice hp m hc))
        (go_keep)
        (fail)
      generalize hX : ((wr.alloc _).alloc _).drew = X
      obtain ⟨hc8, bX⟩ := two_ag w wr _ _ _ _ _ _ _ _ HR.out X hX
      have HC8 : Bx (∀ V, Below X.heap.size X V → _) := ⟨hc8⟩
      have HBX : Bx _ := ⟨bX⟩
      obtain ⟨⟨e0, e1, e2, e3⟩, f0, f1, f2, f3⟩ := hc8 X (Below.refl _ _)
      obtain ⟨_, _, _, _, m1, _, m2⟩ := H2.out X bX
      have r1 : (m : Int) < (m : Int) + 1 := by omega
      have r2 : (m : Int) + 1 ≤ (c2 : Int) := by omega
      have r3 : (0 : Int) ≤ (m : Int) := by omega
      have r4 : (n : Int) < (n : Int) + 1 := by omega
      have r5 : (n : Int) + 1 ≤ (c1 : Int) := by omega
      have r6 : (0 : Int) ≤ (n : Int) := by omega
      clear hX bX hc8 c0 c1' c2' c3' d0 d1 d2 d3
      have m1' : ∀ k, (X.drewN k).cell? ⟨g1, n * 2, none⟩ = some (.int .i64 (-7)) := fun k => (H2.out _ (below_drewN HBX.out k)).2.2.2.2.1
      have HK : Bx (∀ k, Below X.heap.size X (X.drewN k)) := ⟨fun k => below_drewN (Below.refl _ _) k⟩
      go_wp2_with (first
        | (go_at_call 29; refine Calls.mono (HN.out _ HBX.out) ?_; rintro e w5 ⟨rfl, k5, rfl⟩; clear e0 e1 e2 e3 f0 f1 f2 f3 m1 m2; obtain ⟨⟨e0, e1, e2, e3⟩, f0, f1, f2, f3⟩ := HC8.out _ (HK.out k5); have m1 := m1' k5; have B5 : Bx _ := ⟨below_drewN HBX.out k5⟩; have m2 := (H2.out _ B5.out).2.2.2.2.2.2))
      clear e0 e1 e2 e3 f0 f1 f2 f3 m1 m2 m1' HN B5
      have HR' := HR
      go_loopg [85] (n + 1) (fun g v85 wr => ∃ j : Nat, g = n + 1 - j ∧ j ≤ n ∧ v85 = .int .i64 j ∧ Bx (∃ k, wr = X.drewN k))
      case atStart => exact ⟨0, by simp, by omega, rfl, ⟨k5, rfl⟩⟩
      case round =>
        obtain ⟨j, hgj, hj, rfl, HJ⟩ := hrel
        obtain ⟨k, hk⟩ := HJ.out
        have hbw : Below X.heap.size X wr := by rw [hk]; exact HK.out k
        have hbw2 : Below w.heap.size w wr := by rw [hk]; exact below_drewN HBX.out k
        have HKE : Bx (wr = X.drewN k) := ⟨hk⟩
        clear hk
        by_cases hlj : j < n
        · obtain ⟨ch, sd, b2, o2, rfl, hh⟩ := HHd.out j hlj
          have hjI : (j : Int) < (n : Int) := by omega
          have hj0 : (0 : Int) ≤ (j : Int) := by omega
          obtain ⟨⟨_, _, e2, _⟩, _, _, f2, _⟩ := HC8.out _ hbw
          obtain ⟨z0, z1, z2, z3⟩ := hh _ hbw2
          clear hbw hbw2 hh HHd HC8 H1 H2 HNM HR'
          go_wp2
          go_quiet (fail)
          go_wp2
          go_roundg (n + 1 - (j + 1))
          case measure => omega
          case rel => exact ⟨j + 1, rfl, by omega, by simp, ⟨k + nq, by rw [HKE.out]; first | rfl | rw [World.drewN_drewN]⟩⟩
        · have HB9 : Bx (Below w.heap.size w wr) := ⟨hbw2⟩
          clear hbw hbw2
          go_wp2
          go_roundg (s.length + 1 - (i + 1))
          case measure => omega
          case rel => exact ⟨i + 1, rfl, by omega, by simp, HB9⟩
    · have hie : i = s.length := by omega
      subst hie
      go_wp2
      go_ret
      exact ⟨rfl, HR.out⟩
end Go.Proofs.Ytjabdhmkibahlaa
