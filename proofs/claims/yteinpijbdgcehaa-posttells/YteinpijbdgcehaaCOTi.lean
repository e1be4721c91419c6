import Derived.Test.YteinpijbdgcehaaCOBs
import Derived.Test.YteinpijbdgcehaaCOGa
namespace Go.Proofs.Yteinpijbdgcehaa
open Go.RowKit Go.Shelf
set_option linter.unusedVariables false
set_option linter.unusedSimpArgs false

/-- what stands at a waiter that is lent -/
theorem Ln.cells {W : World} {ab : Nat} {B : Nat → Nat} {l : List OWt} (h : Ln W ab B l (armsOf l) l.length) (i : Nat) (hi : i < l.length) :
    W.cell? ⟨ab, i * 2, none⟩ = some (.int .i64 l[i].id) ∧ W.cell? ⟨ab, i * 2 + 1, none⟩ = some (.slice (some ⟨B i, 0, none⟩) l[i].arms.length (l[i].arms.length + 1)) ∧ W.cell? ⟨B i, l[i].arms.length * 5, none⟩ = some (.int .i64 (-99)) ∧ ∀ k (hk : k < l[i].arms.length), W.cell? ⟨B i, k * 5, none⟩ = some (.int .i64 l[i].arms[k].chan) ∧ W.cell? ⟨B i, k * 5 + 1, none⟩ = some (.bool l[i].arms[k].send) := by
  obtain ⟨us, h1, h2, h3⟩ := h.us
  have h4 := h3 i hi hi
  have h5 := h.vs i hi
  rw [armsOf_at l i hi] at h4 h5
  refine ⟨cell_of h1 h4.1, cell_of h1 h4.2, cell_of h5 ?_, fun k hk => ⟨cell_of h5 ?_, cell_of h5 ?_⟩⟩
  · rw [List.getElem?_toArray, List.getElem?_append_right (by rw [armsC_len]; omega), armsC_len, Nat.sub_self]
    rfl
  · rw [List.getElem?_toArray, List.getElem?_append_left (by rw [armsC_len]; omega)]
    exact (armsC_at l[i].arms k hk 0 (by omega)).trans rfl
  · rw [List.getElem?_toArray, List.getElem?_append_left (by rw [armsC_len]; omega)]
    exact (armsC_at l[i].arms k hk 1 (by omega)).trans rfl
set_option maxRecDepth 100000 in
set_option maxHeartbeats 8000000 in
theorem still_any (w W : World) (ab : Nat) (B : Nat → Nat) (rv : Value) (p : Option Addr) (c : Nat) (l : List OWt) (hl : WsR w p c l) (hs : l.length + tot l ≤ 4000) (hln : Ln W ab B l (armsOf l) l.length)
    (hrow : W.ownsRow (ab + 1) 36 1 rv l.length (rowC B (armsOf l) l.length)) (hmk : W.cell? ⟨ab, l.length * 2, none⟩ = some (.int .i64 (-99))) (hb : Below w.heap.size w W) :
    Calls Try.prog 16 #[.slice (some ⟨ab, 0, none⟩) (l.length + 1) (l.length + 1), rv, .slice p l.length c] W fun e W' => e = .returned (.bool true) ∧ Below W.heap.size W W' := by
  have hlc := hl.len
  have hcm := hl.max
  unfold maxLen at hcm
  obtain ⟨xr, cr, hrv, hcr, HRW⟩ := row1_of hrow
  subst hrv
  have HW : Bx (∀ k, Below W.heap.size W (W.drewN k)) := ⟨fun k => below_drewN (Below.refl _ _) k⟩
  have HL : Bx (WsR w p c l) := ⟨hl⟩
  have HN : Bx (Ln W ab B l (armsOf l) l.length) := ⟨hln⟩
  have HB : Bx (Below w.heap.size w W) := ⟨hb⟩
  have HM : Bx (W.cell? ⟨ab, l.length * 2, none⟩ = some (.int .i64 (-99))) := ⟨hmk⟩
  have HR0 : Bx (0 < l.length → ∃ g, xr = some ⟨g, 0, none⟩ ∧ ∀ j, j < l.length → W.cell? ⟨g, j, none⟩ = some (.slice (some ⟨B j, 0, none⟩) ((armsOf l j).length + 1) ((armsOf l j).length + 1))) := ⟨fun h0 => by
    obtain ⟨g, e, _, h2⟩ := HRW h0
    exact ⟨g, e, fun j hj => (h2 j hj).trans (rowC_at _ _ _ _ hj)⟩⟩
  clear hl hln hrow hmk hb HRW
  go_enter Try.func16, Try.ntmps16
  go_wp2
  go_loopg [7] (l.length + 1) (fun g v wr => ∃ i q : Nat, g = l.length + 1 - i ∧ i ≤ l.length ∧ v = .int .i64 i ∧ wr = W.drewN q)
  case atStart => exact ⟨0, 0, by simp, by omega, rfl, rfl⟩
  case round =>
    obtain ⟨i, q0, hg, hil, rfl, rfl⟩ := hrel
    by_cases hlt : i < l.length
    · obtain ⟨b, o, q, d, rfl, hd1, hd2, hC, hA⟩ := HL.out.at_ i hlt
      unfold maxLen at hd2
      have hc0 := (hC W HB.out).1
      have hc1 := (hC W HB.out).2
      obtain ⟨a0, a1, a2, HK⟩ := HN.out.cells i hlt
      obtain ⟨r, rfl, hr⟩ := HR0.out (by omega)
      have r0 := hr i hlt
      rw [armsOf_at l i hlt] at r0
      have hal := tot_le l i hlt
      have HA : Bx (∀ j (hj : j < l[i].arms.length), ∃ b' o', q = some ⟨b', o', none⟩ ∧ ArmAt W b' (o' + j * 5) l[i].arms[j]) := ⟨fun j hj => by obtain ⟨b', o', e, h1⟩ := hA j hj; exact ⟨b', o', e, h1 W HB.out⟩⟩
      have HKB : Bx _ := ⟨HK⟩
      clear hC hA HK hr
      have hi1 : (0 : Int) ≤ ↑i := by omega
      have hi2 : (↑i : Int) < ↑l.length := by omega
      have hi3 : (↑i : Int) < ↑(l.length + 1) := by omega
      generalize hAR : l[i].arms = ams at *
      generalize l[i].id = id at *
      have hn1 : (0 : Int) ≤ ↑ams.length := by omega
      have hn2 : (↑ams.length : Int) < ↑(ams.length + 1) := by omega
      have hne1 : (id != id) = false := by simp
      have hne2 : ((↑ams.length : Int) != ↑ams.length) = false := by simp
      go_wp2
      go_quiet (fail)
      go_wp2
      go_loopg [9] (ams.length + 1) (fun g v wr => ∃ k q : Nat, g = ams.length + 1 - k ∧ k ≤ ams.length ∧ v = .int .i64 k ∧ wr = W.drewN q)
      case atStart => exact ⟨0, q0 + nq, by simp, by omega, rfl, by simp⟩
      case round =>
        obtain ⟨k, q2, hg2, hkl, rfl, rfl⟩ := hrel
        clear a2
        by_cases hkt : k < ams.length
        · obtain ⟨b', o', rfl, ha⟩ := HA.out k hkt
          have e0 := ha.c0
          have e1 := ha.c1
          obtain ⟨s0, s1⟩ := HKB.out k hkt
          clear ha HA HKB
          generalize ams[k] = am at *
          obtain ⟨mc, ms, mx, my, mp, mn, mm⟩ := am
          simp only at e0 e1 s0 s1
          have hk1 : (0 : Int) ≤ ↑k := by omega
          have hk2 : (↑k : Int) < ↑ams.length := by omega
          have hk3 : (↑k : Int) < ↑(ams.length + 1) := by omega
          have hq1 : (mc != mc) = false := by simp
          have hq2 : (ms != ms) = false := by simp
          go_wp2
          go_quiet (fail)
          go_wp2
          go_roundg (ams.length + 1 - (k + 1))
          case measure => omega
          case rel => exact ⟨k + 1, q2 + nq, rfl, by omega, by simp, by simp⟩
        · have hke : k = ams.length := by omega
          subst hke
          clear HA HKB
          go_wp2
          go_roundg (l.length + 1 - (i + 1))
          case measure => omega
          case rel => exact ⟨i + 1, q2, rfl, by omega, by simp, rfl⟩
    · have hie : i = l.length := by omega
      subst hie
      have hm := HM.out
      clear HM HL HN HR0
      go_wp2
      go_ret
      exact ⟨rfl, HW.out _⟩
end Go.Proofs.Yteinpijbdgcehaa
