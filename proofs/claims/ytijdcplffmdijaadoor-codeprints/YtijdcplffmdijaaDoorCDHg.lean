import Derived.Test.YtijdcplffmdijaaDoorCDHf
namespace Go.Proofs.YtijdcplffmdijaaDoor
open Go.RowKit
set_option linter.unusedVariables false
set_option linter.unusedSimpArgs false

/-- numbers and instructions are written over: all else stays, and blocks keep their sizes -/
structure Wp (B : Nat) (X W : World) : Prop where
  bel : Below B X W
  keep : Kp (fun _ t => t ≠ 3 ∧ t ≠ 28) X W
  shp : ∀ (b : Nat) (c : Array Value) (t : TypeId) (fz : Nat × Nat), X.heap[b]? = some (.cells c t fz) → ∃ c', W.heap[b]? = some (.cells c' t fz) ∧ c'.size = c.size
theorem Wp.refl (B : Nat) (X : World) : Wp B X X := ⟨Below.refl _ _, ⟨Nat.le_refl _, fun _ _ _ _ _ _ => rfl⟩, fun b c t fz h => ⟨c, h, rfl⟩⟩
theorem Wp.set {B g i : Nat} {X W : World} {C : Array Value} {t : TypeId} {v : Value} (h : Wp B X W) (hg : X.heap[g]? = some (.cells C t (0, 0))) (ht : t = 3 ∨ t = 28) (hB : B ≤ g) : Wp B X (W.setCell ⟨g, i, none⟩ v) := by
  obtain ⟨C', h1, h2⟩ := h.shp g C t _ hg
  refine ⟨h.bel.setCell (p := ⟨g, i, none⟩) hB _, ⟨by simpa using h.keep.size, fun b c u fz hb hu => ?_⟩, fun b c u fz hb => ?_⟩
  · rw [Below.heap_setCell W ⟨g, i, none⟩ v b (fun e => by
      have e' : b = g := e
      subst e'
      rw [hg] at hb
      injection hb with hb
      injection hb with _ hb _
      subst hb
      rcases ht with ht | ht
      · exact hu.1 ht
      · exact hu.2 ht)]
    exact h.keep.blk b c u fz hb hu
  · by_cases e : b = g
    · subst e
      rw [hg] at hb
      injection hb with hb
      injection hb with q1 q2 q3
      subst q1 q2 q3
      exact ⟨_, heap_setCell_same W b i _ _ v h1, by simp [h2]⟩
    · rw [Below.heap_setCell W ⟨g, i, none⟩ v b e]
      exact h.shp b c u fz hb
theorem Wp.at_ {B g k : Nat} {X W : World} {C : Array Value} {t : TypeId} (h : Wp B X W) (hg : X.heap[g]? = some (.cells C t (0, 0))) (hk : k < C.size) : (∃ v, W.cell? ⟨g, k, none⟩ = some v) ∧ W.frozen? ⟨g, k, none⟩ = false ∧ g < W.heap.size := by
  obtain ⟨C', h1, h2⟩ := h.shp g C t _ hg
  exact ⟨⟨_, cell_blk h1 (Array.getElem?_eq_getElem (by omega))⟩, by simp [World.frozen?, h1], (Array.getElem?_eq_some_iff.1 h1).1⟩
set_option maxRecDepth 100000 in
set_option maxHeartbeats 8000000 in
theorem wipe_any (w W : World) (u : CUn) (pg tg pcap tcap : Nat) (cv iv : Value) (hl : Lent w W u pg tg pcap tcap cv iv) (hs : unS u ≤ 2147483647) :
    Calls Tryd.prog 25 #[.agg #[.slice (some ⟨pg, 0, none⟩) u.progs.length pcap, .slice (some ⟨tg, 0, none⟩) u.types.length tcap, .slice (some ⟨pg, 0, none⟩) (u.progs.length + 1) pcap, .slice (some ⟨tg, 0, none⟩) (u.types.length + 1) tcap, cv, iv]] W fun e w' => e = .returned (.tuple #[]) ∧ Below w.heap.size W w' := by
  have hsz := szU_unS u
  have hst := szU_types u
  have hsp := szU_progs u
  obtain ⟨np, hnp⟩ : ∃ n, u.progs.length = n := ⟨_, rfl⟩
  obtain ⟨nt, hnt⟩ : ∃ n, u.types.length = n := ⟨_, rfl⟩
  obtain ⟨mi, hmi⟩ : ∃ m, (lists u).length = m := ⟨_, rfl⟩
  have hmc : (u.progs.map (·.code)).length = np := by rw [List.length_map]; exact hnp
  have hmib : mi ≤ 2147483647 := by
    have h1 := flat_cnt u.progs
    have h2 : (lists u).length = u.types.length + (u.progs.flatMap fun p => p.code.map (·.list)).length := by unfold lists; rw [List.length_append, List.length_map]
    unfold szU at hsz
    omega
  obtain ⟨H, hH⟩ : ∃ H, W.heap.size = H := ⟨_, rfl⟩
  obtain ⟨B, hBd⟩ : ∃ B, w.heap.size = B := ⟨_, rfl⟩
  have hBH : B ≤ H := by have := hl.bel.size; omega
  obtain ⟨cut, hcds⟩ := hl.cds
  obtain ⟨ac, cc2, hcv, _⟩ := hcds.row slC_len (slAt_of (w := W))
  obtain ⟨ai, ci, hiv, _⟩ := hl.its.row slI_len (ilAt_of (w := W))
  rw [hmc] at hcv
  rw [hmi] at hiv
  subst hcv hiv
  obtain ⟨X1, hX1⟩ : ∃ X, W.alloc (.cells #[.slice (some ⟨pg, 0, none⟩) np pcap, .slice (some ⟨tg, 0, none⟩) nt tcap, .slice (some ⟨pg, 0, none⟩) (np + 1) pcap, .slice (some ⟨tg, 0, none⟩) (nt + 1) tcap, .slice ac np cc2, .slice ai mi ci] 41) = X := ⟨_, rfl⟩
  have b1 : Below W.heap.size W X1 := by rw [← hX1]; exact below1 W _
  have i1 : X1.heap[H]? = some (.cells #[.slice (some ⟨pg, 0, none⟩) np pcap, .slice (some ⟨tg, 0, none⟩) nt tcap, .slice (some ⟨pg, 0, none⟩) (np + 1) pcap, .slice (some ⟨tg, 0, none⟩) (nt + 1) tcap, .slice ac np cc2, .slice ai mi ci] 41 (0, 0)) := by rw [← hX1]; exact heap_newH W _ H hH
  have l1 := hl.below b1
  have HBX : Bx (∀ Y, Wp B X1 Y → Y.cell? ⟨H, 4, none⟩ = some (.slice ac np cc2) ∧ Y.cell? ⟨H, 5, none⟩ = some (.slice ai mi ci) ∧ H < Y.heap.size) := ⟨fun Y hY => by
    have e := (hY.keep.blk H _ _ _ i1 (by decide)).trans i1
    exact ⟨cell_blk e rfl, cell_blk e rfl, (Array.getElem?_eq_some_iff.1 e).1⟩⟩
  have HEND : Bx (∀ Y, Wp B X1 Y → Below B W Y) := ⟨fun Y hY => (b1.mono (by omega)).trans hY.bel⟩
  -- the lists
  have HI : Bx (∀ i, i < mi → ∃ gi oi g m cg, ai = some ⟨gi, oi, none⟩ ∧ i < ci ∧ m ≤ 2147483647 ∧ m + 2 ≤ cg ∧ ∀ Y, Wp B X1 Y → (Y.cell? ⟨gi, oi + i, none⟩ = some (.slice (some ⟨g, 0, none⟩) (m + 2) cg) ∧ gi < Y.heap.size) ∧ ∀ k, k < m + 2 → ((∃ v, Y.cell? ⟨g, k, none⟩ = some v) ∧ Y.frozen? ⟨g, k, none⟩ = false ∧ g < Y.heap.size) ∧ ∀ v, Wp B X1 (Y.setCell ⟨g, k, none⟩ v)) := ⟨fun i hi => by
    obtain ⟨cs, hcs, how⟩ := l1.its.ex
    obtain ⟨a', c', hcv, hcr⟩ := l1.its.row slI_len (ilAt_of (w := X1))
    injection hcv with q1 q2 q3
    subst q1 q3
    obtain ⟨gi, oi, rfl, hgi, hij⟩ := hcr.at_ (by omega)
    obtain ⟨g, cg, hc, hik, hgB, C, hC⟩ := hij i (by omega)
    have hml := lists_len hs i (by omega)
    have hcp := hcr.cap
    have hcap := hik.cap
    obtain ⟨b, o, C2, fz, hbo, hbk, hcells⟩ := hik.at_ (by simp)
    injection hbo with hbo
    injection hbo with hb1 hb2
    subst hb1 hb2
    rw [List.length_append] at hcap
    simp only [List.length_cons, List.length_nil] at hcap
    have hgik : ∃ Cg, X1.heap[gi]? = some (.cells Cg 26 (0, 0)) := by
      rcases how.2 with ⟨q, _⟩ | ⟨g', c', cur, q, _, hq, _⟩
      · cases q
      · injection q with q _ _
        injection q with q
        injection q with q _ _
        subst q
        exact ⟨cur, hq⟩
    obtain ⟨Cg, hCg⟩ := hgik
    have hsize : ∀ k, k < ((lists u)[i]'(by omega)).length + 2 → k < C.size := fun k hk => by
      have h1 := hcells k (by simp; omega)
      rw [Nat.zero_add, World.cell?] at h1
      simp only [hC] at h1
      rcases Nat.lt_or_ge k C.size with h | h
      · exact h
      · rw [Array.getElem?_eq_none h] at h1
        cases h1
    refine ⟨gi, oi, g, ((lists u)[i]'(by omega)).length, cg, rfl, by omega, hml, hcap, fun Y hY => ⟨⟨?_, ?_⟩, fun k hk => ⟨hY.at_ hC (hsize k hk), fun v => hY.set hC (.inl rfl) (by rw [← hBd]; exact hgB)⟩⟩⟩
    · have e := hY.keep.blk gi _ _ _ hCg (by decide)
      rw [World.cell?_of_block (w := X1) (a := ⟨gi, oi + i, none⟩) e]
      rw [Nat.mul_one] at hc
      exact hc
    · have e := (hY.keep.blk gi _ _ _ hCg (by decide)).trans hCg
      exact (Array.getElem?_eq_some_iff.1 e).1⟩
  -- the codes
  have HC : Bx (∀ i, i < np → ∃ gc oc g n cg, ac = some ⟨gc, oc, none⟩ ∧ i < cc2 ∧ n ≤ 2147483647 ∧ n + 1 ≤ cg ∧ ∀ Y, Wp B X1 Y → (Y.cell? ⟨gc, oc + i, none⟩ = some (.slice (some ⟨g, 0, none⟩) (n + 1) cg) ∧ gc < Y.heap.size) ∧ ∀ k, k < (n + 1) * 4 → ((∃ v, Y.cell? ⟨g, k, none⟩ = some v) ∧ Y.frozen? ⟨g, k, none⟩ = false ∧ g < Y.heap.size) ∧ ∀ v, Wp B X1 (Y.setCell ⟨g, k, none⟩ v)) := ⟨fun i hi => by
    obtain ⟨cut1, lc⟩ := l1.cds
    obtain ⟨cs, hcs, how⟩ := lc.ex
    obtain ⟨a', c', hcv, hcr⟩ := lc.row slC_len (slAt_of (w := X1))
    injection hcv with q1 q2 q3
    subst q1 q3
    obtain ⟨gc, oc, rfl, hgc, hcj⟩ := hcr.at_ (by rw [hmc]; omega)
    obtain ⟨vc, hvc, hov, _⟩ := hcj i (by rw [hmc]; omega)
    have hcp := hcr.cap
    rw [List.getElem_map] at hov
    have hi' : i < u.progs.length := by omega
    have hcl : u.progs[i].code.length ≤ 2147483647 := by
      have h1 := sumF_take pS u.progs i hi'
      have h2 := sumF_len iS (fun t => by unfold iS; omega) u.progs[i].code
      have h3 : pS u.progs[i] = 100 + sumF iS u.progs[i].code := rfl
      unfold unS at hs
      omega
    obtain ⟨cs2, _, hw⟩ := hov.ex
    have hlen1 : (u.progs[i].code ++ [noIn]).length = u.progs[i].code.length + 1 := by simp
    rw [hlen1] at hw
    rcases hw.2 with ⟨_, q⟩ | ⟨g, cg, cur, hv, hgB, hg, r1, r2, r3, r4⟩
    · omega
    have hgik : ∃ Cg, X1.heap[gc]? = some (.cells Cg 55 (0, 0)) := by
      rcases how.2 with ⟨q, _⟩ | ⟨g', c', cur, q, _, hq, _⟩
      · cases q
      · injection q with q _ _
        injection q with q
        injection q with q _ _
        subst q
        exact ⟨cur, hq⟩
    obtain ⟨Cg, hCg⟩ := hgik
    subst hv
    refine ⟨gc, oc, g, u.progs[i].code.length, cg, rfl, by rw [hmc] at hcp; omega, hcl, r1, fun Y hY => ⟨⟨?_, ?_⟩, fun k hk => ⟨hY.at_ hg (by rw [r3]; exact Nat.lt_of_lt_of_le hk (Nat.mul_le_mul_right _ r1)), fun v => hY.set hg (.inr rfl) (by rw [← hBd]; exact hgB)⟩⟩⟩
    · have e := hY.keep.blk gc _ _ _ hCg (by decide)
      rw [World.cell?_of_block (w := X1) (a := ⟨gc, oc + i, none⟩) e]
      rw [Nat.mul_one] at hvc
      exact hvc
    · have e := (hY.keep.blk gc _ _ _ hCg (by decide)).trans hCg
      exact (Array.getElem?_eq_some_iff.1 e).1⟩
  have hnpb : np ≤ 2147483647 := by omega
  rw [hnp, hnt, hBd]
  have W0 : Bx (Wp B X1 X1) := ⟨Wp.refl _ _⟩
  clear hl hs hcds l1 b1 i1 hsz hst hsp hmi hmc
  clear hnp hnt
  go_enter Tryd.func25, Tryd.ntmps25
  go_wp2
  clear hX1
  go_loopw [2] (fun x wr => ∃ i : Nat, i ≤ mi ∧ x = .int .i64 i ∧ Bx (Wp B X1 wr)) (fun x _ => mi - (intOf x).toNat)
  case atStart => exact ⟨0, Nat.zero_le _, rfl, W0⟩
  case round =>
    obtain ⟨i, hi, rfl, HR⟩ := hrel
    clear W0
    obtain ⟨y4, y5, yH⟩ := HBX.out wr HR.out
    by_cases hlt : i < mi
    · obtain ⟨gi, oi, g, m, cg, rfl, f5, hmb, hcg, HY⟩ := HI.out i hlt
      have HYB : Bx _ := ⟨HY⟩
      have q1 : (i : Int) < (mi : Int) := by omega
      clear HY
      go_wp2
      clear y4 y5 yH
      go_loopw [3] (fun x wq => ∃ k : Nat, k ≤ m + 2 ∧ x = .int .i64 k ∧ Bx (Wp B X1 wq)) (fun x _ => m + 2 - (intOf x).toNat)
      case atStart => exact ⟨0, Nat.zero_le _, rfl, HR⟩
      case round =>
        clear HR
        obtain ⟨k, hk, rfl, HR⟩ := hrel
        obtain ⟨y4, y5, yH⟩ := HBX.out wr HR.out
        obtain ⟨⟨z1, z2⟩, HK⟩ := HYB.out wr HR.out
        by_cases hlk : k < m + 2
        · obtain ⟨⟨⟨v, x1⟩, x2, x3⟩, x4⟩ := HK k hlk
          have HNX : Bx _ := ⟨x4 (.int .i64 (-5))⟩
          have q2 : (k : Int) < (m : Int) + 2 := by omega
          have f6 : (0 : Int) ≤ (k : Int) := by omega
          clear HK x4 HR
          go_wp2
          go_roundw
          case rel => exact ⟨k + 1, by omega, by go_num, HNX⟩
          case measure => simp [intOf]; omega
        · have q2 : ¬ (k : Int) < (m : Int) + 2 := by omega
          have HNX : Bx _ := ⟨HR.out⟩
          clear HK HR
          go_wp2
          go_roundw
          case rel => exact ⟨i + 1, by omega, by go_num, HNX⟩
          case measure => simp [intOf]; omega
    · have q1 : ¬ (i : Int) < (mi : Int) := by omega
      have W1 : Bx _ := ⟨HR.out⟩
      clear HR
      go_wp2
      clear y4 y5 yH
      go_loopw [4] (fun x wr => ∃ j : Nat, j ≤ np ∧ x = .int .i64 j ∧ Bx (Wp B X1 wr)) (fun x _ => np - (intOf x).toNat)
      case atStart => exact ⟨0, Nat.zero_le _, rfl, W1⟩
      case round =>
        obtain ⟨j, hj, rfl, HR⟩ := hrel
        clear W1
        obtain ⟨y4, y5, yH⟩ := HBX.out wr HR.out
        by_cases hlj : j < np
        · obtain ⟨gc, oc, g, n, cg, rfl, f5, hnb, hcg, HY⟩ := HC.out j hlj
          have HYB : Bx _ := ⟨HY⟩
          have q2 : (j : Int) < (np : Int) := by omega
          clear HY
          go_wp2
          clear y4 y5 yH
          go_loopw [5] (fun x wq => ∃ k : Nat, k ≤ n + 1 ∧ x = .int .i64 k ∧ Bx (Wp B X1 wq)) (fun x _ => n + 1 - (intOf x).toNat)
          case atStart => exact ⟨0, Nat.zero_le _, rfl, HR⟩
          case round =>
            clear HR
            obtain ⟨k, hk, rfl, HR⟩ := hrel
            obtain ⟨y4, y5, yH⟩ := HBX.out wr HR.out
            obtain ⟨⟨z1, z2⟩, HK⟩ := HYB.out wr HR.out
            by_cases hlk : k < n + 1
            · obtain ⟨⟨⟨v0, x0⟩, x1, x2⟩, s0⟩ := HK (k * 4) (by omega)
              obtain ⟨⟨⟨v1, x3⟩, x4, _⟩, _⟩ := HK (k * 4 + 1) (by omega)
              obtain ⟨⟨⟨v2, x5⟩, x6, _⟩, _⟩ := HK (k * 4 + 2) (by omega)
              obtain ⟨⟨⟨v3, x7⟩, x8, _⟩, _⟩ := HK (k * 4 + 3) (by omega)
              have HNX : Bx (∀ a b c d, Wp B X1 ((((wr.setCell ⟨g, k * 4, none⟩ a).setCell ⟨g, k * 4 + 1, none⟩ b).setCell ⟨g, k * 4 + 2, none⟩ c).setCell ⟨g, k * 4 + 3, none⟩ d)) := ⟨fun a b c d => by
                have t1 := s0 a
                have t2 := ((HYB.out _ t1).2 (k * 4 + 1) (by omega)).2 b
                have t3 := ((HYB.out _ t2).2 (k * 4 + 2) (by omega)).2 c
                exact ((HYB.out _ t3).2 (k * 4 + 3) (by omega)).2 d⟩
              have q3 : (k : Int) < (n : Int) + 1 := by omega
              have f6 : (0 : Int) ≤ (k : Int) := by omega
              clear HK s0 HR
              go_wp2
              go_roundw
              case rel => exact ⟨k + 1, by omega, by go_num, ⟨HNX.out _ _ _ _⟩⟩
              case measure => simp [intOf]; omega
            · have q3 : ¬ (k : Int) < (n : Int) + 1 := by omega
              have HNX : Bx _ := ⟨HR.out⟩
              clear HK HR
              go_wp2
              go_roundw
              case rel => exact ⟨j + 1, by omega, by go_num, HNX⟩
              case measure => simp [intOf]; omega
        · have q2 : ¬ (j : Int) < (np : Int) := by omega
          have HE : Bx _ := ⟨HEND.out _ HR.out⟩
          clear HR
          go_wp2
          refine bodyPost_end (v := .tuple #[]) (by simp [results, Tryd.results25, go_sem]) rfl ?_
          exact ⟨rfl, HE.out⟩
end Go.Proofs.YtijdcplffmdijaaDoor
