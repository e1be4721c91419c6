import Derived.Test.YtadmpgegolmkgaaDoorCWmF
import Derived.Test.YtadmpgegolmkgaaDoorCWjE
namespace Go.Proofs.YtadmpgegolmkgaaDoor
open Go.RowKit
set_option linter.unusedVariables false
set_option linter.unusedSimpArgs false

/-! ### progs as a whole -/
def boundsI (p : CPg) : Bool := inI p.params p.slots && (inI p.slots 65536 && (inI p.caps 65536 && decide (0 < p.code.length)))
def firstPI (p : CPg) : Bool := p.params == 0 && (p.caps == 2 && !p.res)
theorem pgB_of {p : CPg} (h : boundsI p = true) (hl : p.code.length ≤ 268435456) : PgB p := by
  simp [boundsI, inI] at h
  exact ⟨by omega, by omega, by omega, by omega, hl⟩
set_option maxRecDepth 100000 in
set_option maxHeartbeats 2000000 in
theorem fitsBounds_any (w : World) (p : CPg) (ca : Option Addr) (cc : Nat) : Calls Tryd.prog 33 #[.agg (pgC p ca cc)] w fun e w' => e = .returned (.bool (boundsI p)) ∧ Bx (Below w.heap.size w w') := by
  have HW : Bx (∀ n m X, _) := ⟨fun n m X => within_any n m X⟩
  have hb : Bx (∀ o1, Below w.heap.size w (w.alloc o1)) := ⟨fun o1 => below1 w o1⟩
  unfold boundsI pgC
  generalize p.params = a at *
  generalize p.slots = b at *
  generalize p.caps = c at *
  generalize p.code.length = n at *
  cases e1 : inI a b with
  | false =>
    go_enter Tryd.func33, Tryd.ntmps33
    go_wp2_with (first
      | (go_at_call 49; refine (HW.out _ _ _).mono ?_; rintro e w1 ⟨rfl, rfl⟩))
    go_ret
    exact ⟨ret_bool (by simp), ⟨hb.out _⟩⟩
  | true =>
    cases e2 : inI b 65536 with
    | false =>
      go_enter Tryd.func33, Tryd.ntmps33
      go_wp2_with (first
        | (go_at_call 49; refine (HW.out _ _ _).mono ?_; rintro e w1 ⟨rfl, rfl⟩))
      go_ret
      exact ⟨ret_bool (by simp), ⟨hb.out _⟩⟩
    | true =>
      cases e3 : inI c 65536 with
      | false =>
        go_enter Tryd.func33, Tryd.ntmps33
        go_wp2_with (first
          | (go_at_call 49; refine (HW.out _ _ _).mono ?_; rintro e w1 ⟨rfl, rfl⟩))
        go_ret
        exact ⟨ret_bool (by simp), ⟨hb.out _⟩⟩
      | true =>
        go_enter Tryd.func33, Tryd.ntmps33
        go_wp2_with (first
          | (go_at_call 49; refine (HW.out _ _ _).mono ?_; rintro e w1 ⟨rfl, rfl⟩))
        go_ret
        exact ⟨ret_bool (by simp), ⟨hb.out _⟩⟩
set_option maxRecDepth 100000 in
set_option maxHeartbeats 2000000 in
theorem fitsFirst_any (w : World) (p : CPg) (ca : Option Addr) (cc : Nat) : Calls Tryd.prog 34 #[.agg (pgC p ca cc)] w fun e w' => e = .returned (.bool (firstPI p)) ∧ Bx (Below w.heap.size w w') := by
  have hb : Bx (∀ o1, Below w.heap.size w (w.alloc o1)) := ⟨fun o1 => below1 w o1⟩
  unfold firstPI pgC
  generalize p.params = a at *
  generalize p.caps = c at *
  cases e1 : (a == 0) with
  | false =>
    go_enter Tryd.func34, Tryd.ntmps34
    go_wp2
    go_ret
    exact ⟨ret_bool (by simp), ⟨hb.out _⟩⟩
  | true =>
    cases e2 : (c == 2) with
    | false =>
      go_enter Tryd.func34, Tryd.ntmps34
      go_wp2
      go_ret
      exact ⟨ret_bool (by simp), ⟨hb.out _⟩⟩
    | true =>
      go_enter Tryd.func34, Tryd.ntmps34
      go_wp2
      go_ret
      exact ⟨ret_bool (by simp), ⟨hb.out _⟩⟩
def longGo : List CPg → Nat → Bool
  | [], _ => false
  | p :: r, n => if n < p.code.length then true else longGo r (n - p.code.length)
theorem longGo_at {l : List CPg} {k n : Nat} (h : k < l.length) : longGo (l.drop k) n = if n < l[k].code.length then true else longGo (l.drop (k + 1)) (n - l[k].code.length) := by
  rw [List.drop_eq_getElem_cons h, longGo]
theorem longGo_le : ∀ {l : List CPg} {n : Nat}, longGo l n = false → ∀ p ∈ l, p.code.length ≤ n
  | [], _, _, p, hp => by cases hp
  | q :: r, n, h, p, hp => by
    rw [longGo] at h
    split at h
    · cases h
    · rcases List.mem_cons.1 hp with e | e
      · subst e; omega
      · have := longGo_le h p e; omega
set_option maxRecDepth 100000 in
set_option maxHeartbeats 4000000 in
theorem tooLong_any (w : World) (B : Nat) (hB : B ≤ w.heap.size) (pa : Option Addr) (pc : Nat) (l : List CPg) (hr : Row (PgAt w B) B 5 pa pc l) : Calls Tryd.prog 32 #[.slice pa l.length pc] w fun e w' => e = .returned (.bool (longGo l 268435456)) ∧ Bx (Below w.heap.size w w') := by
  have hcap := hr.cap
  have hmx := hr.max
  unfold maxLen at hmx
  have HT : Bx (∀ k (hk : k < l.length), _) := ⟨fun k hk => prog_cells hr hk⟩
  generalize hRR : longGo l 268435456 = R
  have HR : Bx (longGo (l.drop 0) 268435456 = R) := ⟨by rw [List.drop_zero]; exact hRR⟩
  clear hr hRR
  go_enter Tryd.func32, Tryd.ntmps32
  go_wp2
  go_loopg [3, 8] (l.length + 1) (fun f v3 v8 wr => ∃ k n : Nat, f = l.length + 1 - k ∧ k ≤ l.length ∧ n ≤ 268435456 ∧ v3 = .int .i64 n ∧ v8 = .int .i64 k ∧ Bx (longGo (l.drop k) n = R) ∧ Bx (Below w.heap.size w wr))
  case atStart => exact ⟨0, 268435456, by simp, Nat.zero_le _, by omega, rfl, rfl, HR, ⟨Below.refl _ _⟩⟩
  case round =>
    obtain ⟨k, n, hf, hk, hn, rfl, rfl, HW, HB⟩ := hrel
    by_cases hlt : k < l.length
    · obtain ⟨b, o, ca, cc, rfl, hb, hci, HC⟩ := HT.out k hlt
      have hs := HB.out.size
      obtain ⟨c0, c1, c2, c3, c4⟩ := HC.out wr (HB.out.mono hB)
      have hbl : b < wr.heap.size := by omega
      have hkI : (k : Int) < (l.length : Int) := by omega
      have HW2 : Bx _ := ⟨(longGo_at hlt).symm.trans HW.out⟩
      have hccap := hci.cap
      have hcmx := hci.max
      unfold maxLen at hcmx
      have HB2 : Bx (∀ oo, Below w.heap.size w (wr.alloc oo)) := ⟨fun oo => HB.out.alloc hs oo⟩
      clear HC hs HB HW HT hci
      generalize l[k] = p at *
      generalize p.code.length = m at *
      by_cases hg : n < m
      · have hr := HW2.out
        rw [if_pos hg] at hr
        subst hr
        have hgb : decide (n < m) = true := decide_eq_true (by omega)
        clear HW2 hg
        go_wp2
        go_ret
        exact ⟨rfl, ⟨HB2.out _⟩⟩
      · have hr := HW2.out
        rw [if_neg hg] at hr
        have HW3 : Bx _ := ⟨hr⟩
        have hgb : decide (n < m) = false := decide_eq_false (by omega)
        have hwr : IntKind.i64.wrap ((n : Int) - (m : Int)) = ((n - m : Nat) : Int) := by rw [IntKind.wrap_i64]; omega
        clear HW2 hr
        go_wp2
        go_roundg (l.length + 1 - (k + 1))
        case measure => omega
        case rel => exact ⟨k + 1, n - m, rfl, by omega, by omega, rfl, by simp, HW3, ⟨HB2.out _⟩⟩
    · obtain rfl : k = l.length := by omega
      have hr := HW.out
      rw [List.drop_length] at hr
      subst hr
      clear HW HT
      go_wp2
      go_ret
      exact ⟨rfl, HB⟩
def badP (p : CPg) (k : Nat) : Bool := !boundsI p || (k == 0 && !firstPI p)
def badGo : List CPg → Nat → Nat × Bool
  | [], _ => (0, false)
  | p :: r, k => if badP p k = true then (k, true) else badGo r (k + 1)
theorem badGo_at {l : List CPg} {k : Nat} (h : k < l.length) : badGo (l.drop k) k = if badP l[k] k = true then (k, true) else badGo (l.drop (k + 1)) (k + 1) := by
  rw [List.drop_eq_getElem_cons h, badGo]
def progR (u : CUn) : Nat × Bool := if u.progs.length = 0 ∨ validI u.types = false ∨ longGo u.progs 268435456 = true then (0, true) else badGo u.progs 0
set_option maxRecDepth 100000 in
set_option maxHeartbeats 8000000 in
theorem wrongProg_any (w : World) (u : CUn) (pa ta : Option Addr) (pc tc : Nat) (hu : UnIn w w.heap.size pa pc ta tc u) :
    Calls Tryd.prog 19 #[unV u pa pc ta tc] w fun e w' => e = .returned (.tuple #[.int .i64 ((progR u).1 : Int), .bool (progR u).2]) ∧ Bx (Below w.heap.size w w') := by
  obtain ⟨H, hH⟩ : ∃ H, w.heap.size = H := ⟨_, rfl⟩
  have hrow := hu.progs
  have hcap := hrow.cap
  have hmx := hrow.max
  unfold maxLen at hmx
  obtain ⟨w1, hw1⟩ : ∃ w1, w.alloc (.cells #[.slice pa u.progs.length pc, .slice ta u.types.length tc] 25) = w1 := ⟨_, rfl⟩
  have b1 : Below w.heap.size w w1 := by rw [← hw1]; exact below1 w _
  have q1 : w1.heap[H]? = some (.cells #[.slice pa u.progs.length pc, .slice ta u.types.length tc] 25 (0, 0)) := by rw [← hw1]; exact heap_newH _ _ _ hH
  have s1 : w1.heap.size = H + 1 := by rw [← hw1]; simp [hH]
  have HU : Bx (∀ X, Below (H + 1) w1 X → X.cell? ⟨H, 0, none⟩ = some (.slice pa u.progs.length pc) ∧ X.cell? ⟨H, 1, none⟩ = some (.slice ta u.types.length tc)) := ⟨fun X hX => ⟨cell_blk ((hX.block H (by omega)).trans q1) rfl, cell_blk ((hX.block H (by omega)).trans q1) rfl⟩⟩
  have HB1 : Bx (Below w.heap.size w w1) := ⟨b1⟩
  have HPC : Bx (∀ k (hk : k < u.progs.length), _) := ⟨fun k hk => prog_cells hrow hk⟩
  obtain ⟨hu0, hu1⟩ := HU.out w1 (Below.refl _ _)
  have HVA : Bx (Calls Tryd.prog 31 #[.slice ta u.types.length tc] w1 fun e w' => e = .returned (.bool (validI u.types)) ∧ w'.cell? ⟨H, 0, none⟩ = some (.slice pa u.progs.length pc) ∧ Bx (Below (H + 1) w1 w' ∧ Below w.heap.size w w')) := ⟨(Valid_any w1 w.heap.size b1.size ta tc u.types (hu.types.mono fun b o x hb he => he.below b1 (Nat.le_refl _) hb)).mono fun e w' q => ⟨q.1, (HU.out _ (by rw [← s1]; exact q.2.out)).1, ⟨by rw [← s1]; exact q.2.out, b1.trans (q.2.out.mono b1.size)⟩⟩⟩
  have HTL : Bx (∀ X, Below (H + 1) w1 X → Calls Tryd.prog 32 #[.slice pa u.progs.length pc] X fun e w' => e = .returned (.bool (longGo u.progs 268435456)) ∧ w'.cell? ⟨H, 0, none⟩ = some (.slice pa u.progs.length pc) ∧ Bx (Below w.heap.size w w')) := ⟨fun X hX => by
    have hx := hX.size
    have hwX : Below w.heap.size w X := b1.trans (hX.mono (by omega))
    refine (tooLong_any X w.heap.size hwX.size pa pc u.progs (hrow.mono fun b o x hb he => he.below hwX (Nat.le_refl _) hb)).mono ?_
    rintro e w' ⟨he, hq⟩
    exact ⟨he, (HU.out _ (hX.trans (hq.out.mono (by omega)))).1, ⟨hwX.trans (hq.out.mono hwX.size)⟩⟩⟩
  unfold progR unV
  clear hu hrow q1 b1
  by_cases h0 : u.progs.length = 0
  · rw [if_pos (.inl h0)]
    have hb0 : ((u.progs.length : Int) == 0) = true := by simp [h0]
    clear HVA HTL HPC h0
    go_enter Tryd.func19, Tryd.ntmps19
    go_wp2
    go_returns
    exact ⟨rfl, ⟨by first | exact HB1.out | (rw [← hH]; exact HB1.out)⟩⟩
  have hb0 : ((u.progs.length : Int) == 0) = false := by simpa using h0
  cases hv : validI u.types with
  | false =>
    rw [if_pos (.inr (.inl rfl))]
    rw [hv] at HVA
    clear HTL HPC hv
    go_enter Tryd.func19, Tryd.ntmps19
    go_wp2_with (first
      | (go_at_call 31; refine HVA.out.mono ?_; rintro e w2 ⟨rfl, y0, HB2⟩))
    go_returns
    exact ⟨rfl, ⟨by first | exact HB2.out.2 | (rw [← hH]; exact HB2.out.2)⟩⟩
  | true =>
    rw [hv] at HVA
    cases htl : longGo u.progs 268435456 with
    | true =>
      rw [if_pos (.inr (.inr rfl))]
      rw [htl] at HTL
      clear HPC hv htl
      go_enter Tryd.func19, Tryd.ntmps19
      go_wp2_with (first
        | (go_at_call 31; refine HVA.out.mono ?_; rintro e w2 ⟨rfl, y0, HB2⟩)
        | (go_at_call 32; refine (HTL.out _ HB2.out.1).mono ?_; rintro e w3 ⟨rfl, y1, HB3⟩))
      go_returns
      exact ⟨rfl, ⟨by first | exact HB3.out | (rw [← hH]; exact HB3.out)⟩⟩
    | false =>
      rw [if_neg (by simp [h0])]
      rw [htl] at HTL
      generalize hRR : badGo u.progs 0 = R
      have HR : Bx (badGo (u.progs.drop 0) 0 = R) := ⟨by rw [List.drop_zero]; exact hRR⟩
      clear hv htl hRR
      go_enter Tryd.func19, Tryd.ntmps19
      go_wp2_with (first
        | (go_at_call 31; refine HVA.out.mono ?_; rintro e w2 ⟨rfl, y0, HB2⟩)
        | (go_at_call 32; refine (HTL.out _ HB2.out.1).mono ?_; rintro e w3 ⟨rfl, y1, HB3⟩))
      clear y0 y1 hu0 hu1 HVA HTL
      go_loopg [24] (u.progs.length + 1) (fun f v24 wr => ∃ k : Nat, f = u.progs.length + 1 - k ∧ k ≤ u.progs.length ∧ v24 = .int .i64 k ∧ Bx (badGo (u.progs.drop k) k = R) ∧ Bx (Below w.heap.size w wr))
      case atStart => exact ⟨0, by simp, Nat.zero_le _, rfl, HR, HB3⟩
      case round =>
        obtain ⟨k, hf, hk, rfl, HW, HB⟩ := hrel
        by_cases hlt : k < u.progs.length
        · obtain ⟨b, o, ca, cc, rfl, hb, hci, HC⟩ := HPC.out k hlt
          have hs := HB.out.size
          obtain ⟨c0, c1, c2, c3, c4⟩ := HC.out wr HB.out
          have hbl : b < wr.heap.size := by omega
          have hkI : (k : Int) < (u.progs.length : Int) := by omega
          have HW2 : Bx _ := ⟨(badGo_at hlt).symm.trans HW.out⟩
          obtain ⟨W1, hW1⟩ : ∃ W1, wr.alloc (.cells (pgC u.progs[k] ca cc) 40) = W1 := ⟨_, rfl⟩
          have b1 : Below wr.heap.size wr W1 := by rw [← hW1]; exact below1 wr _
          have q1 : W1.heap[wr.heap.size]? = some (.cells (pgC u.progs[k] ca cc) 40 (0, 0)) := by rw [← hW1]; exact heap_newH _ _ _ rfl
          have HFB : Bx (Calls Tryd.prog 33 #[.agg (pgC u.progs[k] ca cc)] W1 fun e w' => e = .returned (.bool (boundsI u.progs[k])) ∧ (w'.cell? ⟨wr.heap.size, 0, none⟩ = some (.int .i64 u.progs[k].params) ∧ w'.cell? ⟨wr.heap.size, 1, none⟩ = some (.int .i64 u.progs[k].slots) ∧ w'.cell? ⟨wr.heap.size, 2, none⟩ = some (.int .i64 u.progs[k].caps) ∧ w'.cell? ⟨wr.heap.size, 3, none⟩ = some (.bool u.progs[k].res) ∧ w'.cell? ⟨wr.heap.size, 4, none⟩ = some (.slice ca u.progs[k].code.length cc)) ∧ Bx (Below w.heap.size w w')) := ⟨(fitsBounds_any W1 _ ca cc).mono fun e w' q => by
            have hq := (q.2.out.block _ (heap_lt q1)).trans q1
            exact ⟨q.1, ⟨cell_blk hq rfl, cell_blk hq rfl, cell_blk hq rfl, cell_blk hq rfl, cell_blk hq rfl⟩, ⟨HB.out.trans ((b1.trans (q.2.out.mono b1.size)).mono hs)⟩⟩⟩
          have HFF : Bx (∀ X, Below w.heap.size w X → Calls Tryd.prog 34 #[.agg (pgC u.progs[k] ca cc)] X fun e w' => e = .returned (.bool (firstPI u.progs[k])) ∧ Bx (Below w.heap.size w w')) := ⟨fun X hX => (fitsFirst_any X _ ca cc).mono fun e w' q => ⟨q.1, ⟨hX.trans (q.2.out.mono hX.size)⟩⟩⟩
          have HW1 : Bx _ := ⟨hW1⟩
          unfold badP at HW2
          unfold pgC at HFB HFF HW1
          clear HC hs HB HW HPC hci q1 b1 hW1
          generalize u.progs[k] = p at *
          cases hbo : boundsI p with
          | false =>
            rw [hbo] at HFB HW2
            have hr := HW2.out
            simp only [Bool.not_false, Bool.true_or, if_true] at hr
            subst hr
            clear HW2 hbo
            go_wp2_with (first
              | (go_at_call 33; rw [HW1.out]; refine HFB.out.mono ?_; rintro e w4 ⟨rfl, ⟨d0, d1, d2, d3, d4⟩, HB4⟩))
            go_returns
            exact ⟨rfl, ⟨by first | exact HB4.out | (rw [← hH]; exact HB4.out)⟩⟩
          | true =>
            rw [hbo] at HFB HW2
            simp only [Bool.not_true, Bool.false_or] at HW2
            clear hbo
            by_cases hk0 : k = 0
            · have hkb : ((k : Int) == 0) = true := by simp [hk0]
              have hkn : (k == 0) = true := by simp [hk0]
              rw [hkn] at HW2
              simp only [Bool.true_and] at HW2
              cases hfi : firstPI p with
              | false =>
                rw [hfi] at HFF HW2
                have hr := HW2.out
                simp only [Bool.not_false, if_true] at hr
                subst hr
                clear HW2 hfi hk0 hkn
                go_wp2_with (first
                  | (go_at_call 33; rw [HW1.out]; refine HFB.out.mono ?_; rintro e w4 ⟨rfl, ⟨d0, d1, d2, d3, d4⟩, HB4⟩)
                  | (go_at_call 34; refine (HFF.out _ HB4.out).mono ?_; rintro e w5 ⟨rfl, HB5⟩))
                go_returns
                exact ⟨rfl, ⟨by first | exact HB5.out | (rw [← hH]; exact HB5.out)⟩⟩
              | true =>
                rw [hfi] at HFF HW2
                have hr := HW2.out
                simp only [Bool.not_true, Bool.false_eq_true, if_false] at hr
                have HW3 : Bx _ := ⟨hr⟩
                clear HW2 hfi hk0 hkn hr
                go_wp2_with (first
                  | (go_at_call 33; rw [HW1.out]; refine HFB.out.mono ?_; rintro e w4 ⟨rfl, ⟨d0, d1, d2, d3, d4⟩, HB4⟩)
                  | (go_at_call 34; refine (HFF.out _ HB4.out).mono ?_; rintro e w5 ⟨rfl, HB5⟩))
                go_roundg (u.progs.length + 1 - (k + 1))
                case measure => omega
                case rel => exact ⟨k + 1, rfl, by omega, by simp, HW3, HB5⟩
            · have hkb : ((k : Int) == 0) = false := by simp; omega
              have hkn : (k == 0) = false := by simp [hk0]
              rw [hkn] at HW2
              have hr := HW2.out
              simp only [Bool.false_and, Bool.false_eq_true, if_false] at hr
              have HW3 : Bx _ := ⟨hr⟩
              clear HW2 hk0 hkn hr
              go_wp2_with (first
                | (go_at_call 33; rw [HW1.out]; refine HFB.out.mono ?_; rintro e w4 ⟨rfl, ⟨d0, d1, d2, d3, d4⟩, HB4⟩))
              go_roundg (u.progs.length + 1 - (k + 1))
              case measure => omega
              case rel => exact ⟨k + 1, rfl, by omega, by simp, HW3, HB4⟩
        · obtain rfl : k = u.progs.length := by omega
          have hr := HW.out
          rw [List.drop_length] at hr
          subst hr
          clear HW HPC
          go_wp2
          go_returns
          exact ⟨rfl, ⟨by first | exact HB.out | (rw [← hH]; exact HB.out)⟩⟩
end Go.Proofs.YtadmpgegolmkgaaDoor
namespace Go.Proofs.YtadmpgegolmkgaaDoor
set_option linter.unusedVariables false
set_option linter.unusedSimpArgs false

/-! ### which rows have a default value, plainly -/
def fup {α : Type} (f : Nat → α) (i : Nat) (v : α) : Nat → α := fun j => if j = i then v else f j
theorem fup_same {α : Type} (f : Nat → α) (i : Nat) (v : α) : fup f i v i = v := by simp [fup]
theorem fup_ne {α : Type} (f : Nat → α) {i j : Nat} (v : α) (h : j ≠ i) : fup f i v j = f j := by simp [fup, h]
structure DfS where
  has : Nat → Bool
  ms : Nat → Int
  wh : Nat → List Int
  fd : List Int
def tyD : CTy := ⟨0, [], false⟩
def tyA (ts : List CTy) (r : Nat) : CTy := ts.getD r tyD
def whGo (row : Nat) : List Int → (Nat → List Int) → Nat → List Int
  | [], W => W
  | k :: r, W => whGo row r (fup W k.toNat (W k.toNat ++ [(row : Int)]))
def df1 (t : CTy) (row : Nat) (s : DfS) : DfS := if t.kind = 4 then ⟨s.has, fup s.ms row t.kids.length, whGo row t.kids s.wh, s.fd⟩ else ⟨s.has, s.ms, s.wh, s.fd ++ [(row : Int)]⟩
def df1All : List CTy → Nat → DfS → DfS
  | [], _, s => s
  | t :: r, k, s => df1All r (k + 1) (df1 t k s)
def df0 : DfS := ⟨fun _ => false, fun _ => 0, fun _ => [], []⟩
def msGo : List Int → (Nat → Int) × List Int → (Nat → Int) × List Int
  | [], p => p
  | w :: r, p => msGo r (fup p.1 w.toNat (p.1 w.toNat - 1), if p.1 w.toNat - 1 = 0 then p.2 ++ [w] else p.2)
def df2 (s : DfS) (x : Nat) (rest : List Int) : DfS := ⟨fup s.has x true, (msGo (s.wh x) (s.ms, rest)).1, s.wh, (msGo (s.wh x) (s.ms, rest)).2⟩
def df2All : Nat → DfS → DfS
  | 0, s => s
  | f + 1, s => match s.fd.getLast? with
    | none => s
    | some x => df2All f (df2 s x.toNat s.fd.dropLast)
def dfAll (ts : List CTy) : DfS := df2All (ts.length + 1) (df1All ts 0 df0)
def dfL (ts : List CTy) : List Bool := (List.range ts.length).map (dfAll ts).has
theorem df1All_at {l : List CTy} {k : Nat} (h : k < l.length) (s : DfS) : df1All (l.drop k) k s = df1All (l.drop (k + 1)) (k + 1) (df1 l[k] k s) := by
  rw [List.drop_eq_getElem_cons h, df1All]
theorem whGo_at {row : Nat} {l : List Int} {k : Nat} (h : k < l.length) (W : Nat → List Int) : whGo row (l.drop k) W = whGo row (l.drop (k + 1)) (fup W (l[k]).toNat (W (l[k]).toNat ++ [(row : Int)])) := by
  rw [List.drop_eq_getElem_cons h, whGo]
theorem msGo_at {l : List Int} {k : Nat} (h : k < l.length) (p : (Nat → Int) × List Int) : msGo (l.drop k) p = msGo (l.drop (k + 1)) (fup p.1 (l[k]).toNat (p.1 (l[k]).toNat - 1), if p.1 (l[k]).toNat - 1 = 0 then p.2 ++ [l[k]] else p.2) := by
  rw [List.drop_eq_getElem_cons h, msGo]
/-! the invariants -/
abbrev isTu (ts : List CTy) (r : Nat) : Prop := (tyA ts r).kind = 4
/-- how often a row is a kid of another one -/
def kc (ts : List CTy) (w x : Nat) : Nat := (tyA ts w).kids.count (x : Int)
structure TsV (ts : List CTy) : Prop where
  kids : ∀ r, ∀ k ∈ (tyA ts r).kids, 0 ≤ k ∧ k < ts.length
/-- behind so many rows -/
structure D1 (ts : List CTy) (k : Nat) (s : DfS) : Prop where
  has : ∀ r, s.has r = false
  ms : ∀ r, s.ms r = if r < k ∧ isTu ts r then ((tyA ts r).kids.length : Int) else 0
  whr : ∀ x, ∀ w ∈ s.wh x, 0 ≤ w ∧ w < (k : Int) ∧ isTu ts w.toNat
  whc : ∀ (x w : Nat), (s.wh x).count (w : Int) = if w < k ∧ isTu ts w then kc ts w x else 0
  fd : s.fd.Nodup ∧ ∀ w ∈ s.fd, 0 ≤ w ∧ w < (k : Int) ∧ ¬ isTu ts w.toNat
  fda : ∀ r, r < k → ¬ isTu ts r → (r : Int) ∈ s.fd
theorem whGo_count (row : Nat) : ∀ (l : List Int) (W : Nat → List Int), (∀ k ∈ l, 0 ≤ k) → ∀ x (w : Int), (whGo row l W x).count w = (W x).count w + if w = row then l.count (x : Int) else 0
  | [], W, _, x, w => by simp [whGo]
  | k :: r, W, h, x, w => by
    rw [whGo, whGo_count row r _ (fun j hj => h j (List.mem_cons_of_mem _ hj))]
    have hk := h k List.mem_cons_self
    by_cases hx : x = k.toNat
    · subst hx
      rw [fup_same, List.count_append]
      have e : ((k.toNat : Nat) : Int) = k := by omega
      rw [List.count_cons, e]
      by_cases hw : w = row
      · subst hw; simp; omega
      · simp [hw]
        exact fun e2 => hw e2.symm
    · rw [fup_ne _ _ hx, List.count_cons]
      have : ¬ k = (x : Int) := by omega
      simp [this]
theorem whGo_mem (row : Nat) : ∀ (l : List Int) (W : Nat → List Int) (x : Nat) (w : Int), w ∈ whGo row l W x → w ∈ W x ∨ w = row
  | [], W, x, w, h => .inl h
  | k :: r, W, x, w, h => by
    rw [whGo] at h
    rcases whGo_mem row r _ x w h with h | h
    · by_cases hx : x = k.toNat
      · subst hx
        rw [fup_same] at h
        rcases List.mem_append.1 h with h | h
        · exact .inl h
        · exact .inr (by simpa using h)
      · rw [fup_ne _ _ hx] at h
        exact .inl h
    · exact .inr h
theorem d1_zero (ts : List CTy) : D1 ts 0 df0 := ⟨fun _ => rfl, fun r => by simp [df0], fun x w hw => by simp [df0] at hw, fun x w => by simp [df0], ⟨by simp [df0], fun w hw => by simp [df0] at hw⟩, fun r hr => by omega⟩
theorem tyA_eq {ts : List CTy} {k : Nat} (h : k < ts.length) : tyA ts k = ts[k] := by
  unfold tyA
  rw [List.getD_eq_getElem?_getD, List.getElem?_eq_getElem h]
  rfl
theorem D1.step {ts : List CTy} {k : Nat} {s : DfS} (h : D1 ts k s) (hv : TsV ts) (hk : k < ts.length) : D1 ts (k + 1) (df1 ts[k] k s) := by
  rw [← tyA_eq hk]
  unfold df1
  by_cases ht : (tyA ts k).kind = 4
  · rw [if_pos ht]
    have htu : isTu ts k := ht
    refine ⟨h.has, fun r => ?_, fun x w hw => ?_, fun x w => ?_, ⟨h.fd.1, fun w hw => ?_⟩, fun r hr hn => ?_⟩
    · by_cases hr : r = k
      · subst hr
        show fup _ _ _ _ = _
        rw [fup_same, if_pos ⟨by omega, htu⟩]
      · show fup _ _ _ _ = _
        rw [fup_ne _ _ hr, h.ms]
        by_cases h2 : isTu ts r
        · by_cases h3 : r < k
          · rw [if_pos ⟨h3, h2⟩, if_pos ⟨by omega, h2⟩]
          · rw [if_neg fun e => h3 e.1, if_neg fun e => by omega]
        · rw [if_neg fun e => h2 e.2, if_neg fun e => h2 e.2]
    · rcases whGo_mem k _ _ x w hw with e | e
      · have := h.whr x w e
        exact ⟨this.1, by omega, this.2.2⟩
      · subst e
        exact ⟨by omega, by omega, by simpa using htu⟩
    · show (whGo k _ _ x).count _ = _
      rw [whGo_count k _ _ (fun j hj => (hv.kids k j hj).1), h.whc]
      by_cases hw : w = k
      · subst hw
        rw [if_neg (by omega), if_pos rfl, if_pos ⟨by omega, htu⟩]
        simp [kc]
      · rw [if_neg (show ¬ (w : Int) = (k : Int) by omega)]
        by_cases h2 : isTu ts w
        · by_cases h3 : w < k
          · rw [if_pos ⟨h3, h2⟩, if_pos ⟨by omega, h2⟩]; rfl
          · rw [if_neg fun e => h3 e.1, if_neg fun e => by omega]
        · rw [if_neg fun e => h2 e.2, if_neg fun e => h2 e.2]
    · have := h.fd.2 w hw
      exact ⟨this.1, by omega, this.2.2⟩
    · by_cases e : r = k
      · subst e; exact absurd htu hn
      · exact h.fda r (by omega) hn
  · rw [if_neg ht]
    have htu : ¬ isTu ts k := ht
    refine ⟨h.has, fun r => ?_, fun x w hw => ?_, fun x w => ?_, ⟨?_, fun w hw => ?_⟩, fun r hr hn => ?_⟩
    · show s.ms r = _
      rw [h.ms]
      by_cases h2 : isTu ts r
      · by_cases h3 : r < k
        · rw [if_pos ⟨h3, h2⟩, if_pos ⟨by omega, h2⟩]
        · rw [if_neg fun e => h3 e.1, if_neg fun e => by
            have : r = k := by omega
            subst this
            exact htu h2]
      · rw [if_neg fun e => h2 e.2, if_neg fun e => h2 e.2]
    · have := h.whr x w hw
      exact ⟨this.1, by omega, this.2.2⟩
    · show (s.wh x).count _ = _
      rw [h.whc]
      by_cases h2 : isTu ts w
      · by_cases h3 : w < k
        · rw [if_pos ⟨h3, h2⟩, if_pos ⟨by omega, h2⟩]
        · rw [if_neg fun e => h3 e.1, if_neg fun e => by
            have : w = k := by omega
            subst this
            exact htu h2]
      · rw [if_neg fun e => h2 e.2, if_neg fun e => h2 e.2]
    · show (s.fd ++ [(k : Int)]).Nodup
      rw [List.nodup_append]
      refine ⟨h.fd.1, by simp, fun a ha b hb => ?_⟩
      have := h.fd.2 a ha
      simp at hb
      omega
    · rcases List.mem_append.1 hw with e | e
      · have := h.fd.2 w e
        exact ⟨this.1, by omega, this.2.2⟩
      · simp at e
        subst e
        exact ⟨by omega, by omega, by simpa using htu⟩
    · by_cases e : r = k
      · subst e; exact List.mem_append.2 (.inr (by simp))
      · exact List.mem_append.2 (.inl (h.fda r (by omega) hn))
end Go.Proofs.YtadmpgegolmkgaaDoor
