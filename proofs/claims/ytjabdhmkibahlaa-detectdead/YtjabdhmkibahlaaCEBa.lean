import Derived.Test.YtjabdhmkibahlaaCGIp
namespace Go.Proofs.Ytjabdhmkibahlaa
open Go.RowKit Go.MapKept Go.ChangeMaps Go.WideShapes
set_option linter.unusedVariables false
set_option linter.unusedSimpArgs false

def AtI (w W : World) (n : Nat) (A : Int → List Int) : Prop := ∃ m V own, m ≤ n ∧ AtW w.heap.size W w.heap.size m V A own ∧ (∀ c, (A c).length ≤ n) ∧ Below w.heap.size w W
theorem at_put {w Z w9 : World} {m N ab : Nat} {V : Int → Value} {A : Int → List Int} {own : Nat → Option Int} {o : Obj} (h : AtW w.heap.size Z w.heap.size m V A own) (hl : m ≤ N ∧ ∀ c, (A c).length ≤ N) {ch : Int} (h64 : I64 ch) (id : Int) (hN : N ≤ 8589934592) (hb : Below w.heap.size w Z) (hk : Z.heap[ab]? = some o) {us : Array Value} {fr : Nat × Nat} (ho : o = .cells us 53 fr) {kb : Nat} {sd : Value} (hk2 : Z.heap[kb]? = some (.cells #[.int .i64 ch, sd] 58 (0, 0))) {v9 : Value} (hown : w9.ownsRow w.heap.size 3 1 v9 ((A ch).length + 1) (rowC (A ch) ++ [.int .i64 id])) (hg : Z.grownBy w9 (V ch).ownBlock) (hv : v9.ownBlock = (V ch).ownBlock ∨ v9.ownBlock = some Z.heap.size) :
    w9.cell? ⟨kb, 0, none⟩ = some (.int .i64 ch) ∧ ∃ w10, (Instr.mapUpdate 97 (.map (some w.heap.size)) (.int .i64 ch) v9).run Try.prog w9 = .ok () w10 ∧ Bx (AtI w w10 (N + 1) (upd A ch (A ch ++ [id])) ∧ w10.heap[ab]? = some o) := by
  obtain ⟨w10, hput, hm, hg2⟩ := (h.grown_map ch hg).put Try.underlying97 (c := ch) h64 (by unfold maxLen; omega) v9
  obtain ⟨own', hw⟩ := h.add ch id hown hg hv hm hg2
  have hab := (Array.getElem?_eq_some_iff.1 hk).1
  have hne1 : some ab ≠ (V ch).ownBlock := fun e => by
    obtain ⟨us', hu⟩ := own_blk_lt (h.row ch) e.symm
    rw [hk, ho] at hu
    cases hu
  have h9 := (hg.block ab hab hne1).trans hk
  have hne2 : some ab ≠ some w.heap.size := fun e => by
    cases e
    obtain ⟨D, ⟨es, clock, h0, _⟩, _⟩ := h.map.ex
    rw [hk, ho] at h0
    cases h0
  have hb9 : Below w.heap.size w w9 := hb.grown hg hb.size (fun r e => own_base (h.row ch) r e)
  have hk9 := (hg.block kb (Array.getElem?_eq_some_iff.1 hk2).1 (fun e => by
    obtain ⟨us', hu⟩ := own_blk_lt (h.row ch) e.symm
    rw [hk2] at hu
    cases hu)).trans hk2
  refine ⟨cell_of hk9 rfl, w10, hput, ⟨⟨m + 1, _, own', by omega, hw, fun c => ?_, hb9.grown hg2 hb9.size (fun r e => by cases e; exact Nat.le_refl _)⟩, (hg2.block ab (Nat.lt_of_lt_of_le hab hg.size) hne2).trans h9⟩⟩
  by_cases e : c = ch
  · subst e
    rw [upd_same, List.length_append]
    have := hl.2 c
    simp
    omega
  · rw [upd_other _ _ e]
    have := hl.2 c
    omega
set_option maxRecDepth 100000 in
set_option maxHeartbeats 4000000 in
theorem waitingD_any (w : World) (p : Option Addr) (c : Nat) (s : List Ag) (h : AgsR w p c s) (ht : totA s ≤ 8589934592) : Calls Try.prog 64 #[.slice p s.length c] w fun e w' => ∃ n, n ≤ 8589934592 ∧ e = .returned (.map (some w.heap.size)) ∧ AtI w w' n (atD s) := by
  obtain ⟨i0, hi, iz0, iz1, iz2⟩ := info_parts infoI
  have hlc := h.len
  have hcm := h.max
  unfold maxLen at hcm
  have HS : Bx (AgsR w p c s) := ⟨h⟩
  have HT : Bx (totA s ≤ 8589934592) := ⟨ht⟩
  have hmm := @run_makeMap Try.prog
  obtain ⟨W, hW⟩ : ∃ W, w.alloc (.map #[] 0) = W := ⟨_, rfl⟩
  have HM : Bx (AtI w W 0 (atD [])) := ⟨0, fun _ => nV, fun _ => none, Nat.le_refl _, by rw [← hW]; exact AtW.new w _, fun c => Nat.le_refl _, by rw [← hW]; exact below1 _ _⟩
  have HWE : Bx (_ = W) := ⟨hW⟩
  clear h hW ht
  go_enter Try.func64, Try.ntmps64
  go_wp2
  rw [HWE.out]
  clear hmm
  go_loopg [11] (s.length + 1) (fun g v wr => ∃ i n, g = s.length + 1 - i ∧ i ≤ s.length ∧ v = .int .i64 (i : Nat) ∧ Bx (n ≤ totA (s.take i) ∧ AtI w wr n (atD (s.take i))))
  case atStart => exact ⟨0, 0, by simp, by omega, rfl, ⟨Nat.zero_le _, HM.out⟩⟩
  case round =>
    obtain ⟨i, n, hk, hil, rfl, HR⟩ := hrel
    clear HM HWE
    by_cases hlt : i < s.length
    · obtain ⟨b, o, ap, ac, hp, hc, rfl, hA, hcl⟩ := HS.out.at_ i hlt
      obtain ⟨hn0, m, V, own, hm0, hat, hlen, hbr⟩ := HR.out
      obtain ⟨c0, c1, c2, c3⟩ := hcl wr hbr
      have HTK : Bx (s.take (i + 1) = s.take i ++ [s[i]]) := ⟨List.take_succ_eq_append_getElem hlt⟩
      have HAr : Bx (HdsR w ap ac s[i].arms ∧ I64 s[i].id) := ⟨hA.arms, hA.id⟩
      have a1 := hA.arms.len
      have a2 := hA.arms.max
      unfold maxLen at a2
      have hbd : n + s[i].arms.length ≤ 8589934591 := by
        have h1 := totA_take s i hlt
        have h2 : totA (s.take (i + 1)) ≤ totA s := by
          have := totA_app (s.take (i + 1)) (s.drop (i + 1))
          rw [List.take_append_drop] at this
          omega
        have := HT.out
        omega
      have htt : totA (s.take (i + 1)) = totA (s.take i) + (s[i].arms.length + s[i].held.length + 1) := totA_take s i hlt
      clear hcl hA HS HT
      generalize s[i] = a at *
      obtain ⟨id, aw, arms, held⟩ := a
      simp only at c0 c1 c2 c3 a1 hbd htt HAr
      obtain ⟨X, hX⟩ : ∃ X, wr.alloc (.cells #[.int .i64 id, .bool aw, .slice ap arms.length ac, .slice hp held.length hc] 53) = X := ⟨_, rfl⟩
      have hbX : Below wr.heap.size wr X := by rw [← hX]; exact below1 _ _
      have hkX : X.heap[wr.heap.size]? = some (.cells #[.int .i64 id, .bool aw, .slice ap arms.length ac, .slice hp held.length hc] 53 (0, 0)) := by rw [← hX]; exact World.alloc_heap_new _ _
      have d2 : X.cell? ⟨wr.heap.size, 2, none⟩ = some (.slice ap arms.length ac) := cell_of hkX rfl
      have HI : Bx (AtI w X n (atD (s.take i)) ∧ X.heap[wr.heap.size]? = some (.cells #[.int .i64 id, .bool aw, .slice ap arms.length ac, .slice hp held.length hc] 53 (0, 0))) := ⟨⟨m, V, own, hm0, hat.below hbX, hlen, hbr.trans (hbX.mono hbr.size)⟩, hkX⟩
      have HXE : Bx (_ = X) := ⟨hX⟩
      have HN0 : Bx (n ≤ totA (s.take i)) := ⟨hn0⟩
      rw [← hX] at d2
      obtain ⟨ab, hab⟩ : ∃ ab, wr.heap.size = ab := ⟨_, rfl⟩
      have HAB : Bx (wr.heap.size = ab) := ⟨hab⟩
      rw [hab] at HI
      clear hX hbX hkX HR hbr hat hlen hm0 hn0 hab
      go_wp2
      rw [HXE.out, HAB.out]
      go_loopg [18] (arms.length + 1) (fun g v wr => ∃ j : Nat, g = arms.length + 1 - j ∧ j ≤ arms.length ∧ v = .int .i64 (j : Nat) ∧ Bx (AtI w wr (n + j) (atArms (atD (s.take i)) id (arms.take j)) ∧ wr.heap[ab]? = some (.cells #[.int .i64 id, .bool aw, .slice ap arms.length ac, .slice hp held.length hc] 53 (0, 0))))
      case atStart => exact ⟨0, by simp, by omega, rfl, HI⟩
      case round =>
        obtain ⟨j, hgj, hjl, rfl, HR⟩ := hrel
        clear HI
        by_cases hltj : j < arms.length
        · obtain ⟨hb, ho, rfl, h64, hcl⟩ := HAr.out.1.at_ j hltj
          obtain ⟨⟨m, V, own, hm0, hat, hlen, hbr⟩, hkA⟩ := HR.out
          obtain ⟨q0, q1⟩ := hcl wr hbr
          have HTJ : Bx (atArms (atD (s.take i)) id (arms.take (j + 1)) = upd (atArms (atD (s.take i)) id (arms.take j)) arms[j].chan (atArms (atD (s.take i)) id (arms.take j) arms[j].chan ++ [id])) := ⟨by rw [List.take_succ_eq_append_getElem hltj, atArms_snoc]⟩
          clear hcl
          generalize arms[j] = h at *
          obtain ⟨ch, sd⟩ := h
          simp only at q0 q1 HTJ h64
          generalize atArms (atD (s.take i)) id (arms.take j) = A at *
          obtain ⟨Y, hY⟩ : ∃ Y, wr.alloc (.cells #[.int .i64 ch, .bool sd] 58) = Y := ⟨_, rfl⟩
          have hbY : Below wr.heap.size wr Y := by rw [← hY]; exact below1 _ _
          have hkY : Y.heap[wr.heap.size]? = some (.cells #[.int .i64 ch, .bool sd] 58 (0, 0)) := by rw [← hY]; exact World.alloc_heap_new _ _
          have hkA2 := (hbY.block ab (Array.getElem?_eq_some_iff.1 hkA).1).trans hkA
          have r0 : Y.cell? ⟨wr.heap.size, 0, none⟩ = some (.int .i64 ch) := cell_of hkY rfl
          have r1 : Y.cell? ⟨ab, 0, none⟩ = some (.int .i64 id) := cell_of hkA2 rfl
          have hatY := hat.below hbY
          have hlk := hatY.map.look Try.underlying97 Try.zeroValue45 h64
          have HYE : Bx (_ = Y) := ⟨hY⟩
          rw [← hY] at r0 r1 hlk
          obtain ⟨Z, hZ⟩ : ∃ Z, (Y.alloc (.cells #[.int .i64 id] 3)).drew = Z := ⟨_, rfl⟩
          have hbZ : Below Y.heap.size Y Z := by rw [← hZ]; exact (below1 _ _).drew
          have hkZ : Z.heap[Y.heap.size]? = some (.cells #[.int .i64 id] 3 (0, 0)) := by rw [← hZ]; exact World.alloc_heap_new _ _
          have HZ : Bx (AtW w.heap.size Z w.heap.size m V A own ∧ Z.heap[Y.heap.size]? = some (.cells #[.int .i64 id] 3 (0, 0)) ∧ Below w.heap.size w Z ∧ Z.heap[ab]? = some (.cells #[.int .i64 id, .bool aw, .slice (some ⟨hb, ho, none⟩) arms.length ac, .slice hp held.length hc] 53 (0, 0)) ∧ Z.heap[wr.heap.size]? = some (.cells #[.int .i64 ch, .bool sd] 58 (0, 0))) := ⟨hatY.below hbZ, hkZ, (hbr.trans (hbY.mono hbr.size)).trans (hbZ.mono (hbr.trans (hbY.mono hbr.size)).size), (hbZ.block ab (Array.getElem?_eq_some_iff.1 hkA2).1).trans hkA2, (hbZ.block _ (Array.getElem?_eq_some_iff.1 hkY).1).trans hkY⟩
          have HZE : Bx (_ = Z) := ⟨hZ⟩
          have hlA := hlen ch
          have HLen : Bx (m ≤ n + j ∧ ∀ c, (A c).length ≤ n + j) := ⟨hm0, hlen⟩
          have hZs : w.heap.size ≤ Z.heap.size := HZ.out.2.2.1.size
          rw [HYE.out] at r0 r1 hlk
          have hlk1 := (hatY.below (below1 Y (.cells #[.int .i64 id] 3)).drew).map.look Try.underlying97 Try.zeroValue45 h64
          have r2 : (Y.alloc (.cells #[.int .i64 id] 3)).cell? ⟨wr.heap.size, 0, none⟩ = some (.int .i64 ch) := cell_of (((below1 Y _).block _ (Array.getElem?_eq_some_iff.1 hkY).1).trans hkY) rfl
          have r3 : (Y.alloc (.cells #[.int .i64 id] 3)).cell? ⟨ab, 0, none⟩ = some (.int .i64 id) := cell_of (((below1 Y _).block _ (Array.getElem?_eq_some_iff.1 hkA2).1).trans hkA2) rfl
          have hlk2 := (hatY.below (Below.refl Y.heap.size Y).drew).map.look Try.underlying97 Try.zeroValue45 h64
          clear hZ hbZ hkZ hkA hkA2 hatY hat hlen hbr hbY hkY HR hm0
          go_wp2
          go_region_law (first
            | (rw [HZE.out]; refine step_app rfl (.tmp 28) (.tmp 31) 45 rfl w.heap.size 3 i0 (.int .i64 0) 1 8 Try.underlying45 hi iz0 iz1 iz2 rfl (by decide) (V ch) (A ch).length (rowC (A ch)) rfl (HZ.out.1.row ch) (some ⟨Y.heap.size, 0, none⟩) 1 1 [.int .i64 id] rfl rfl (fun _ => ⟨_, rfl, block_cells _ _ _ 3 HZ.out.2.1⟩) (by simp [Value.oneCell']) (by unfold maxLen; omega) (by omega) hZs ?_; intro v9 w9 hown9 hgrow9 hv9; obtain ⟨r4, w10, hput, HF⟩ := at_put HZ.out.1 HLen.out h64 id (by omega) HZ.out.2.2.1 HZ.out.2.2.2.1 rfl HZ.out.2.2.2.2 hown9 hgrow9 hv9; clear hown9 hgrow9 hv9))
          all_goals
            go_wp2
            go_roundg (arms.length + 1 - (j + 1))
            case measure => omega
            case rel => exact ⟨j + 1, rfl, by omega, by simp, ⟨by rw [HTJ.out]; exact HF.out.1, HF.out.2⟩⟩
        · have hje : j = arms.length := by omega
          subst hje
          rw [List.take_length] at HR
          have HF : Bx (n + arms.length ≤ totA (s.take (i + 1)) ∧ AtI w wr (n + arms.length) (atD (s.take (i + 1)))) := ⟨by have := HN0.out; omega, by rw [HTK.out, atD, atF_snoc]; exact HR.out.1⟩
          clear HR
          go_wp2
          go_roundg (s.length + 1 - (i + 1))
          case measure => omega
          case rel => exact ⟨i + 1, _, rfl, by omega, by simp, HF⟩
    · have hie : i = s.length := by omega
      subst hie
      rw [List.take_length] at HR
      have HT2 := HT.out
      have hn := HR.out.1
      go_wp2
      go_ret
      exact ⟨n, by omega, rfl, HR.out.2⟩
end Go.Proofs.Ytjabdhmkibahlaa
