import Derived.Test.YtadmpgegolmkgaaDoorCWvV
import Derived.Test.YtadmpgegolmkgaaDoorCWjD
import Derived.Test.YtadmpgegolmkgaaDoorCWjB
namespace Go.Proofs.YtadmpgegolmkgaaDoor
open Go.RowKit
set_option linter.unusedVariables false
set_option linter.unusedSimpArgs false

/-! ### progs as a whole -/
def boundsI (p : CPg) : Bool := inI p.params p.slots && (inI p.slots 65536 && (inI p.caps 65536 && decide (0 < p.code.length)))
def firstPI (p : CPg) : Bool := p.params == 0 && (p.caps == 2 && !p.res)
theorem pgB_of {p : CPg} (h : boundsI p = true) (hl : p.code.length ≤ 268435456) : PgB p := by
  simp [boundsI, inI] at h
  exact ⟨by omega, by omega, by omega, by omega, hl⟩
set_option maxRecDepth 100000 in
set_option maxHeartbeats 2000000 in
theorem fitsBounds_any (w : World) (p : CPg) (ca : Option Addr) (cc : Nat) : Calls Tryd.prog 33 #[.agg (pgC p ca cc)] w fun e w' => e = .returned (.bool (boundsI p)) ∧ Bx (Below w.heap.size w w') := by
  have HW : Bx (∀ n m X, _) := ⟨fun n m X => within_any n m X⟩
  have hb : Bx (∀ o1, Below w.heap.size w (w.alloc o1)) := ⟨fun o1 => below1 w o1⟩
  unfold boundsI pgC
  generalize p.params = a at *
  generalize p.slots = b at *
  generalize p.caps = c at *
  generalize p.code.length = n at *
  cases e1 : inI a b with
  | false =>
    go_enter Tryd.func33, Tryd.ntmps33
    go_wp2_with (first
      | (go_at_call 49; refine (HW.out _ _ _).mono ?_; rintro e w1 ⟨rfl, rfl⟩))
    go_ret
    exact ⟨ret_bool (by simp), ⟨hb.out _⟩⟩
  | true =>
    cases e2 : inI b 65536 with
    | false =>
      go_enter Tryd.func33, Tryd.ntmps33
      go_wp2_with (first
        | (go_at_call 49; refine (HW.out _ _ _).mono ?_; rintro e w1 ⟨rfl, rfl⟩))
      go_ret
      exact ⟨ret_bool (by simp), ⟨hb.out _⟩⟩
    | true =>
      cases e3 : inI c 65536 with
      | false =>
        go_enter Tryd.func33, Tryd.ntmps33
        go_wp2_with (first
          | (go_at_call 49; refine (HW.out _ _ _).mono ?_; rintro e w1 ⟨rfl, rfl⟩))
        go_ret
        exact ⟨ret_bool (by simp), ⟨hb.out _⟩⟩
      | true =>
        go_enter Tryd.func33, Tryd.ntmps33
        go_wp2_with (first
          | (go_at_call 49; refine (HW.out _ _ _).mono ?_; rintro e w1 ⟨rfl, rfl⟩))
        go_ret
        exact ⟨ret_bool (by simp), ⟨hb.out _⟩⟩
set_option maxRecDepth 100000 in
set_option maxHeartbeats 2000000 in
theorem fitsFirst_any (w : World) (p : CPg) (ca : Option Addr) (cc : Nat) : Calls Tryd.prog 34 #[.agg (pgC p ca cc)] w fun e w' => e = .returned (.bool (firstPI p)) ∧ Bx (Below w.heap.size w w') := by
  have hb : Bx (∀ o1, Below w.heap.size w (w.alloc o1)) := ⟨fun o1 => below1 w o1⟩
  unfold firstPI pgC
  generalize p.params = a at *
  generalize p.caps = c at *
  cases e1 : (a == 0) with
  | false =>
    go_enter Tryd.func34, Tryd.ntmps34
    go_wp2
    go_ret
    exact ⟨ret_bool (by simp), ⟨hb.out _⟩⟩
  | true =>
    cases e2 : (c == 2) with
    | false =>
      go_enter Tryd.func34, Tryd.ntmps34
      go_wp2
      go_ret
      exact ⟨ret_bool (by simp), ⟨hb.out _⟩⟩
    | true =>
      go_enter Tryd.func34, Tryd.ntmps34
      go_wp2
      go_ret
      exact ⟨ret_bool (by simp), ⟨hb.out _⟩⟩
def longGo : List CPg → Nat → Bool
  | [], _ => false
  | p :: r, n => if n < p.code.length then true else longGo r (n - p.code.length)
theorem longGo_at {l : List CPg} {k n : Nat} (h : k < l.length) : longGo (l.drop k) n = if n < l[k].code.length then true else longGo (l.drop (k + 1)) (n - l[k].code.length) := by
  rw [List.drop_eq_getElem_cons h, longGo]
theorem longGo_le : ∀ {l : List CPg} {n : Nat}, longGo l n = false → ∀ p ∈ l, p.code.length ≤ n
  | [], _, _, p, hp => by cases hp
  | q :: r, n, h, p, hp => by
    rw [longGo] at h
    split at h
    · cases h
    · rcases List.mem_cons.1 hp with e | e
      · subst e; omega
      · have := longGo_le h p e; omega
set_option maxRecDepth 100000 in
set_option maxHeartbeats 4000000 in
theorem tooLong_any (w : World) (B : Nat) (hB : B ≤ w.heap.size) (pa : Option Addr) (pc : Nat) (l : List CPg) (hr : Row (PgAt w B) B 5 pa pc l) : Calls Tryd.prog 32 #[.slice pa l.length pc] w fun e w' => e = .returned (.bool (longGo l 268435456)) ∧ Bx (Below w.heap.size w w') := by
  have hcap := hr.cap
  have hmx := hr.max
  unfold maxLen at hmx
  have HT : Bx (∀ k (hk : k < l.length), _) := ⟨fun k hk => prog_cells hr hk⟩
  generalize hRR : longGo l 268435456 = R
  have HR : Bx (longGo (l.drop 0) 268435456 = R) := ⟨by rw [List.drop_zero]; exact hRR⟩
  clear hr hRR
  go_enter Tryd.func32, Tryd.ntmps32
  go_wp2
  go_loopg [3, 8] (l.length + 1) (fun f v3 v8 wr => ∃ k n : Nat, f = l.length + 1 - k ∧ k ≤ l.length ∧ n ≤ 268435456 ∧ v3 = .int .i64 n ∧ v8 = .int .i64 k ∧ Bx (longGo (l.drop k) n = R) ∧ Bx (Below w.heap.size w wr))
  case atStart => exact ⟨0, 268435456, by simp, Nat.zero_le _, by omega, rfl, rfl, HR, ⟨Below.refl _ _⟩⟩
  case round =>
    obtain ⟨k, n, hf, hk, hn, rfl, rfl, HW, HB⟩ := hrel
    by_cases hlt : k < l.length
    · obtain ⟨b, o, ca, cc, rfl, hb, hci, HC⟩ := HT.out k hlt
      have hs := HB.out.size
      obtain ⟨c0, c1, c2, c3, c4⟩ := HC.out wr (HB.out.mono hB)
      have hbl : b < wr.heap.size := by omega
      have hkI : (k : Int) < (l.length : Int) := by omega
      have HW2 : Bx _ := ⟨(longGo_at hlt).symm.trans HW.out⟩
      have hccap := hci.cap
      have hcmx := hci.max
      unfold maxLen at hcmx
      have HB2 : Bx (∀ oo, Below w.heap.size w (wr.alloc oo)) := ⟨fun oo => HB.out.alloc hs oo⟩
      clear HC hs HB HW HT hci
      generalize l[k] = p at *
      generalize p.code.length = m at *
      by_cases hg : n < m
      · have hr := HW2.out
        rw [if_pos hg] at hr
        subst hr
        have hgb : decide (n < m) = true := decide_eq_true (by omega)
        clear HW2 hg
        go_wp2
        go_ret
        exact ⟨rfl, ⟨HB2.out _⟩⟩
      · have hr := HW2.out
        rw [if_neg hg] at hr
        have HW3 : Bx _ := ⟨hr⟩
        have hgb : decide (n < m) = false := decide_eq_false (by omega)
        have hwr : IntKind.i64.wrap ((n : Int) - (m : Int)) = ((n - m : Nat) : Int) := by rw [IntKind.wrap_i64]; omega
        clear HW2 hr
        go_wp2
        go_roundg (l.length + 1 - (k + 1))
        case measure => omega
        case rel => exact ⟨k + 1, n - m, rfl, by omega, by omega, rfl, by simp, HW3, ⟨HB2.out _⟩⟩
    · obtain rfl : k = l.length := by omega
      have hr := HW.out
      rw [List.drop_length] at hr
      subst hr
      clear HW HT
      go_wp2
      go_ret
      exact ⟨rfl, HB⟩
def badP (p : CPg) (k : Nat) : Bool := !boundsI p || (k == 0 && !firstPI p)
def badGo : List CPg → Nat → Nat × Bool
  | [], _ => (0, false)
  | p :: r, k => if badP p k = true then (k, true) else badGo r (k + 1)
theorem badGo_at {l : List CPg} {k : Nat} (h : k < l.length) : badGo (l.drop k) k = if badP l[k] k = true then (k, true) else badGo (l.drop (k + 1)) (k + 1) := by
  rw [List.drop_eq_getElem_cons h, badGo]
def progR (u : CUn) : Nat × Bool := if u.progs.length = 0 ∨ validI u.types = false ∨ longGo u.progs 268435456 = true then (0, true) else badGo u.progs 0
set_option maxRecDepth 100000 in
set_option maxHeartbeats 8000000 in
theorem wrongProg_any (w : World) (u : CUn) (pa ta : Option Addr) (pc tc : Nat) (hu : UnIn w w.heap.size pa pc ta tc u) :
    Calls Tryd.prog 19 #[unV u pa pc ta tc] w fun e w' => e = .returned (.tuple #[.int .i64 ((progR u).1 : Int), .bool (progR u).2]) ∧ Bx (Below w.heap.size w w') := by
  obtain ⟨H, hH⟩ : ∃ H, w.heap.size = H := ⟨_, rfl⟩
  have hrow := hu.progs
  have hcap := hrow.cap
  have hmx := hrow.max
  unfold maxLen at hmx
  obtain ⟨w1, hw1⟩ : ∃ w1, w.alloc (.cells #[.slice pa u.progs.length pc, .slice ta u.types.length tc] 25) = w1 := ⟨_, rfl⟩
  have b1 : Below w.heap.size w w1 := by rw [← hw1]; exact below1 w _
  have q1 : w1.heap[H]? = some (.cells #[.slice pa u.progs.length pc, .slice ta u.types.length tc] 25 (0, 0)) := by rw [← hw1]; exact heap_newH _ _ _ hH
  have s1 : w1.heap.size = H + 1 := by rw [← hw1]; simp [hH]
  have HU : Bx (∀ X, Below (H + 1) w1 X → X.cell? ⟨H, 0, none⟩ = some (.slice pa u.progs.length pc) ∧ X.cell? ⟨H, 1, none⟩ = some (.slice ta u.types.length tc)) := ⟨fun X hX => ⟨cell_blk ((hX.block H (by omega)).trans q1) rfl, cell_blk ((hX.block H (by omega)).trans q1) rfl⟩⟩
  have HB1 : Bx (Below w.heap.size w w1) := ⟨b1⟩
  have HPC : Bx (∀ k (hk : k < u.progs.length), _) := ⟨fun k hk => prog_cells hrow hk⟩
  obtain ⟨hu0, hu1⟩ := HU.out w1 (Below.refl _ _)
  have HVA : Bx (Calls Tryd.prog 31 #[.slice ta u.types.length tc] w1 fun e w' => e = .returned (.bool (validI u.types)) ∧ w'.cell? ⟨H, 0, none⟩ = some (.slice pa u.progs.length pc) ∧ Bx (Below (H + 1) w1 w' ∧ Below w.heap.size w w')) := ⟨(Valid_any w1 w.heap.size b1.size ta tc u.types (hu.types.mono fun b o x hb he => he.below b1 (Nat.le_refl _) hb)).mono fun e w' q => ⟨q.1, (HU.out _ (by rw [← s1]; exact q.2.out)).1, ⟨by rw [← s1]; exact q.2.out, b1.trans (q.2.out.mono b1.size)⟩⟩⟩
  have HTL : Bx (∀ X, Below (H + 1) w1 X → Calls Tryd.prog 32 #[.slice pa u.progs.length pc] X fun e w' => e = .returned (.bool (longGo u.progs 268435456)) ∧ w'.cell? ⟨H, 0, none⟩ = some (.slice pa u.progs.length pc) ∧ Bx (Below w.heap.size w w')) := ⟨fun X hX => by
    have hx := hX.size
    have hwX : Below w.heap.size w X := b1.trans (hX.mono (by omega))
    refine (tooLong_any X w.heap.size hwX.size pa pc u.progs (hrow.mono fun b o x hb he => he.below hwX (Nat.le_refl _) hb)).mono ?_
    rintro e w' ⟨he, hq⟩
    exact ⟨he, (HU.out _ (hX.trans (hq.out.mono (by omega)))).1, ⟨hwX.trans (hq.out.mono hwX.size)⟩⟩⟩
  unfold progR unV
  clear hu hrow q1 b1
  by_cases h0 : u.progs.length = 0
  · rw [if_pos (.inl h0)]
    have hb0 : ((u.progs.length : Int) == 0) = true := by simp [h0]
    clear HVA HTL HPC h0
    go_enter Tryd.func19, Tryd.ntmps19
    go_wp2
    go_returns
    exact ⟨rfl, ⟨by first | exact HB1.out | (rw [← hH]; exact HB1.out)⟩⟩
  have hb0 : ((u.progs.length : Int) == 0) = false := by simpa using h0
  cases hv : validI u.types with
  | false =>
    rw [if_pos (.inr (.inl rfl))]
    rw [hv] at HVA
    clear HTL HPC hv
    go_enter Tryd.func19, Tryd.ntmps19
    go_wp2_with (first
      | (go_at_call 31; refine HVA.out.mono ?_; rintro e w2 ⟨rfl, y0, HB2⟩))
    go_returns
    exact ⟨rfl, ⟨by first | exact HB2.out.2 | (rw [← hH]; exact HB2.out.2)⟩⟩
  | true =>
    rw [hv] at HVA
    cases htl : longGo u.progs 268435456 with
    | true =>
      rw [if_pos (.inr (.inr rfl))]
      rw [htl] at HTL
      clear HPC hv htl
      go_enter Tryd.func19, Tryd.ntmps19
      go_wp2_with (first
        | (go_at_call 31; refine HVA.out.mono ?_; rintro e w2 ⟨rfl, y0, HB2⟩)
        | (go_at_call 32; refine (HTL.out _ HB2.out.1).mono ?_; rintro e w3 ⟨rfl, y1, HB3⟩))
      go_returns
      exact ⟨rfl, ⟨by first | exact HB3.out | (rw [← hH]; exact HB3.out)⟩⟩
    | false =>
      rw [if_neg (by simp [h0])]
      rw [htl] at HTL
      generalize hRR : badGo u.progs 0 = R
      have HR : Bx (badGo (u.progs.drop 0) 0 = R) := ⟨by rw [List.drop_zero]; exact hRR⟩
      clear hv htl hRR
      go_enter Tryd.func19, Tryd.ntmps19
      go_wp2_with (first
        | (go_at_call 31; refine HVA.out.mono ?_; rintro e w2 ⟨rfl, y0, HB2⟩)
        | (go_at_call 32; refine (HTL.out _ HB2.out.1).mono ?_; rintro e w3 ⟨rfl, y1, HB3⟩))
      clear y0 y1 hu0 hu1 HVA HTL
      go_loopg [24] (u.progs.length + 1) (fun f v24 wr => ∃ k : Nat, f = u.progs.length + 1 - k ∧ k ≤ u.progs.length ∧ v24 = .int .i64 k ∧ Bx (badGo (u.progs.drop k) k = R) ∧ Bx (Below w.heap.size w wr))
      case atStart => exact ⟨0, by simp, Nat.zero_le _, rfl, HR, HB3⟩
      case round =>
        obtain ⟨k, hf, hk, rfl, HW, HB⟩ := hrel
        by_cases hlt : k < u.progs.length
        · obtain ⟨b, o, ca, cc, rfl, hb, hci, HC⟩ := HPC.out k hlt
          have hs := HB.out.size
          obtain ⟨c0, c1, c2, c3, c4⟩ := HC.out wr HB.out
          have hbl : b < wr.heap.size := by omega
          have hkI : (k : Int) < (u.progs.length : Int) := by omega
          have HW2 : Bx _ := ⟨(badGo_at hlt).symm.trans HW.out⟩
          obtain ⟨W1, hW1⟩ : ∃ W1, wr.alloc (.cells (pgC u.progs[k] ca cc) 40) = W1 := ⟨_, rfl⟩
          have b1 : Below wr.heap.size wr W1 := by rw [← hW1]; exact below1 wr _
          have q1 : W1.heap[wr.heap.size]? = some (.cells (pgC u.progs[k] ca cc) 40 (0, 0)) := by rw [← hW1]; exact heap_newH _ _ _ rfl
          have HFB : Bx (Calls Tryd.prog 33 #[.agg (pgC u.progs[k] ca cc)] W1 fun e w' => e = .returned (.bool (boundsI u.progs[k])) ∧ (w'.cell? ⟨wr.heap.size, 0, none⟩ = some (.int .i64 u.progs[k].params) ∧ w'.cell? ⟨wr.heap.size, 1, none⟩ = some (.int .i64 u.progs[k].slots) ∧ w'.cell? ⟨wr.heap.size, 2, none⟩ = some (.int .i64 u.progs[k].caps) ∧ w'.cell? ⟨wr.heap.size, 3, none⟩ = some (.bool u.progs[k].res) ∧ w'.cell? ⟨wr.heap.size, 4, none⟩ = some (.slice ca u.progs[k].code.length cc)) ∧ Bx (Below w.heap.size w w')) := ⟨(fitsBounds_any W1 _ ca cc).mono fun e w' q => by
            have hq := (q.2.out.block _ (heap_lt q1)).trans q1
            exact ⟨q.1, ⟨cell_blk hq rfl, cell_blk hq rfl, cell_blk hq rfl, cell_blk hq rfl, cell_blk hq rfl⟩, ⟨HB.out.trans ((b1.trans (q.2.out.mono b1.size)).mono hs)⟩⟩⟩
          have HFF : Bx (∀ X, Below w.heap.size w X → Calls Tryd.prog 34 #[.agg (pgC u.progs[k] ca cc)] X fun e w' => e = .returned (.bool (firstPI u.progs[k])) ∧ Bx (Below w.heap.size w w')) := ⟨fun X hX => (fitsFirst_any X _ ca cc).mono fun e w' q => ⟨q.1, ⟨hX.trans (q.2.out.mono hX.size)⟩⟩⟩
          have HW1 : Bx _ := ⟨hW1⟩
          unfold badP at HW2
          unfold pgC at HFB HFF HW1
          clear HC hs HB HW HPC hci q1 b1 hW1
          generalize u.progs[k] = p at *
          cases hbo : boundsI p with
          | false =>
            rw [hbo] at HFB HW2
            have hr := HW2.out
            simp only [Bool.not_false, Bool.true_or, if_true] at hr
            subst hr
            clear HW2 hbo
            go_wp2_with (first
              | (go_at_call 33; rw [HW1.out]; refine HFB.out.mono ?_; rintro e w4 ⟨rfl, ⟨d0, d1, d2, d3, d4⟩, HB4⟩))
            go_returns
            exact ⟨rfl, ⟨by first | exact HB4.out | (rw [← hH]; exact HB4.out)⟩⟩
          | true =>
            rw [hbo] at HFB HW2
            simp only [Bool.not_true, Bool.false_or] at HW2
            clear hbo
            by_cases hk0 : k = 0
            · have hkb : ((k : Int) == 0) = true := by simp [hk0]
              have hkn : (k == 0) = true := by simp [hk0]
              rw [hkn] at HW2
              simp only [Bool.true_and] at HW2
              cases hfi : firstPI p with
              | false =>
                rw [hfi] at HFF HW2
                have hr := HW2.out
                simp only [Bool.not_false, if_true] at hr
                subst hr
                clear HW2 hfi hk0 hkn
                go_wp2_with (first
                  | (go_at_call 33; rw [HW1.out]; refine HFB.out.mono ?_; rintro e w4 ⟨rfl, ⟨d0, d1, d2, d3, d4⟩, HB4⟩)
                  | (go_at_call 34; refine (HFF.out _ HB4.out).mono ?_; rintro e w5 ⟨rfl, HB5⟩))
                go_returns
                exact ⟨rfl, ⟨by first | exact HB5.out | (rw [← hH]; exact HB5.out)⟩⟩
              | true =>
                rw [hfi] at HFF HW2
                have hr := HW2.out
                simp only [Bool.not_true, Bool.false_eq_true, if_false] at hr
                have HW3 : Bx _ := ⟨hr⟩
                clear HW2 hfi hk0 hkn hr
                go_wp2_with (first
                  | (go_at_call 33; rw [HW1.out]; refine HFB.out.mono ?_; rintro e w4 ⟨rfl, ⟨d0, d1, d2, d3, d4⟩, HB4⟩)
                  | (go_at_call 34; refine (HFF.out _ HB4.out).mono ?_; rintro e w5 ⟨rfl, HB5⟩))
                go_roundg (u.progs.length + 1 - (k + 1))
                case measure => omega
                case rel => exact ⟨k + 1, rfl, by omega, by simp, HW3, HB5⟩
            · have hkb : ((k : Int) == 0) = false := by simp; omega
              have hkn : (k == 0) = false := by simp [hk0]
              rw [hkn] at HW2
              have hr := HW2.out
              simp only [Bool.false_and, Bool.false_eq_true, if_false] at hr
              have HW3 : Bx _ := ⟨hr⟩
              clear HW2 hk0 hkn hr
              go_wp2_with (first
                | (go_at_call 33; rw [HW1.out]; refine HFB.out.mono ?_; rintro e w4 ⟨rfl, ⟨d0, d1, d2, d3, d4⟩, HB4⟩))
              go_roundg (u.progs.length + 1 - (k + 1))
              case measure => omega
              case rel => exact ⟨k + 1, rfl, by omega, by simp, HW3, HB4⟩
        · obtain rfl : k = u.progs.length := by omega
          have hr := HW.out
          rw [List.drop_length] at hr
          subst hr
          clear HW HPC
          go_wp2
          go_returns
          exact ⟨rfl, ⟨by first | exact HB.out | (rw [← hH]; exact HB.out)⟩⟩
end Go.Proofs.YtadmpgegolmkgaaDoor
namespace Go.Proofs.YtadmpgegolmkgaaDoor
set_option linter.unusedVariables false
set_option linter.unusedSimpArgs false

/-! ### which rows have a default value, plainly -/
def fup {α : Type} (f : Nat → α) (i : Nat) (v : α) : Nat → α := fun j => if j = i then v else f j
theorem fup_same {α : Type} (f : Nat → α) (i : Nat) (v : α) : fup f i v i = v := by simp [fup]
theorem fup_ne {α : Type} (f : Nat → α) {i j : Nat} (v : α) (h : j ≠ i) : fup f i v j = f j := by simp [fup, h]
structure DfS where
  has : Nat → Bool
  ms : Nat → Int
  wh : Nat → List Int
  fd : List Int
def tyD : CTy := ⟨0, [], false⟩
def tyA (ts : List CTy) (r : Nat) : CTy := ts.getD r tyD
def whGo (row : Nat) : List Int → (Nat → List Int) → Nat → List Int
  | [], W => W
  | k :: r, W => whGo row r (fup W k.toNat (W k.toNat ++ [(row : Int)]))
def df1 (t : CTy) (row : Nat) (s : DfS) : DfS := if t.kind = 4 then ⟨s.has, fup s.ms row t.kids.length, whGo row t.kids s.wh, s.fd⟩ else ⟨s.has, s.ms, s.wh, s.fd ++ [(row : Int)]⟩
def df1All : List CTy → Nat → DfS → DfS
  | [], _, s => s
  | t :: r, k, s => df1All r (k + 1) (df1 t k s)
def df0 : DfS := ⟨fun _ => false, fun _ => 0, fun _ => [], []⟩
def msGo : List Int → (Nat → Int) × List Int → (Nat → Int) × List Int
  | [], p => p
  | w :: r, p => msGo r (fup p.1 w.toNat (p.1 w.toNat - 1), if p.1 w.toNat - 1 = 0 then p.2 ++ [w] else p.2)
def df2 (s : DfS) (x : Nat) (rest : List Int) : DfS := ⟨fup s.has x true, (msGo (s.wh x) (s.ms, rest)).1, s.wh, (msGo (s.wh x) (s.ms, rest)).2⟩
def df2All : Nat → DfS → DfS
  | 0, s => s
  | f + 1, s => match s.fd.getLast? with
    | none => s
    | some x => df2All f (df2 s x.toNat s.fd.dropLast)
def dfAll (ts : List CTy) : DfS := df2All (ts.length + 1) (df1All ts 0 df0)
def dfL (ts : List CTy) : List Bool := (List.range ts.length).map (dfAll ts).has
theorem df1All_at {l : List CTy} {k : Nat} (h : k < l.length) (s : DfS) : df1All (l.drop k) k s = df1All (l.drop (k + 1)) (k + 1) (df1 l[k] k s) := by
  rw [List.drop_eq_getElem_cons h, df1All]
theorem whGo_at {row : Nat} {l : List Int} {k : Nat} (h : k < l.length) (W : Nat → List Int) : whGo row (l.drop k) W = whGo row (l.drop (k + 1)) (fup W (l[k]).toNat (W (l[k]).toNat ++ [(row : Int)])) := by
  rw [List.drop_eq_getElem_cons h, whGo]
theorem msGo_at {l : List Int} {k : Nat} (h : k < l.length) (p : (Nat → Int) × List Int) : msGo (l.drop k) p = msGo (l.drop (k + 1)) (fup p.1 (l[k]).toNat (p.1 (l[k]).toNat - 1), if p.1 (l[k]).toNat - 1 = 0 then p.2 ++ [l[k]] else p.2) := by
  rw [List.drop_eq_getElem_cons h, msGo]
/-! the invariants -/
abbrev isTu (ts : List CTy) (r : Nat) : Prop := (tyA ts r).kind = 4
/-- how often a row is a kid of another one -/
def kc (ts : List CTy) (w x : Nat) : Nat := (tyA ts w).kids.count (x : Int)
structure TsV (ts : List CTy) : Prop where
  kids : ∀ r, ∀ k ∈ (tyA ts r).kids, 0 ≤ k ∧ k < ts.length
/-- behind so many rows -/
structure D1 (ts : List CTy) (k : Nat) (s : DfS) : Prop where
  has : ∀ r, s.has r = false
  ms : ∀ r, s.ms r = if r < k ∧ isTu ts r then ((tyA ts r).kids.length : Int) else 0
  whr : ∀ x, ∀ w ∈ s.wh x, 0 ≤ w ∧ w < (k : Int) ∧ isTu ts w.toNat
  whc : ∀ (x w : Nat), (s.wh x).count (w : Int) = if w < k ∧ isTu ts w then kc ts w x else 0
  fd : s.fd.Nodup ∧ ∀ w ∈ s.fd, 0 ≤ w ∧ w < (k : Int) ∧ ¬ isTu ts w.toNat
  fda : ∀ r, r < k → ¬ isTu ts r → (r : Int) ∈ s.fd
theorem whGo_count (row : Nat) : ∀ (l : List Int) (W : Nat → List Int), (∀ k ∈ l, 0 ≤ k) → ∀ x (w : Int), (whGo row l W x).count w = (W x).count w + if w = row then l.count (x : Int) else 0
  | [], W, _, x, w => by simp [whGo]
  | k :: r, W, h, x, w => by
    rw [whGo, whGo_count row r _ (fun j hj => h j (List.mem_cons_of_mem _ hj))]
    have hk := h k List.mem_cons_self
    by_cases hx : x = k.toNat
    · subst hx
      rw [fup_same, List.count_append]
      have e : ((k.toNat : Nat) : Int) = k := by omega
      rw [List.count_cons, e]
      by_cases hw : w = row
      · subst hw; simp; omega
      · simp [hw]
        exact fun e2 => hw e2.symm
    · rw [fup_ne _ _ hx, List.count_cons]
      have : ¬ k = (x : Int) := by omega
      simp [this]
theorem whGo_mem (row : Nat) : ∀ (l : List Int) (W : Nat → List Int) (x : Nat) (w : Int), w ∈ whGo row l W x → w ∈ W x ∨ w = row
  | [], W, x, w, h => .inl h
  | k :: r, W, x, w, h => by
    rw [whGo] at h
    rcases whGo_mem row r _ x w h with h | h
    · by_cases hx : x = k.toNat
      · subst hx
        rw [fup_same] at h
        rcases List.mem_append.1 h with h | h
        · exact .inl h
        · exact .inr (by simpa using h)
      · rw [fup_ne _ _ hx] at h
        exact .inl h
    · exact .inr h
theorem d1_zero (ts : List CTy) : D1 ts 0 df0 := ⟨fun _ => rfl, fun r => by simp [df0], fun x w hw => by simp [df0] at hw, fun x w => by simp [df0], ⟨by simp [df0], fun w hw => by simp [df0] at hw⟩, fun r hr => by omega⟩
theorem tyA_eq {ts : List CTy} {k : Nat} (h : k < ts.length) : tyA ts k = ts[k] := by
  unfold tyA
  rw [List.getD_eq_getElem?_getD, List.getElem?_eq_getElem h]
  rfl
theorem D1.step {ts : List CTy} {k : Nat} {s : DfS} (h : D1 ts k s) (hv : TsV ts) (hk : k < ts.length) : D1 ts (k + 1) (df1 ts[k] k s) := by
  rw [← tyA_eq hk]
  unfold df1
  by_cases ht : (tyA ts k).kind = 4
  · rw [if_pos ht]
    have htu : isTu ts k := ht
    refine ⟨h.has, fun r => ?_, fun x w hw => ?_, fun x w => ?_, ⟨h.fd.1, fun w hw => ?_⟩, fun r hr hn => ?_⟩
    · by_cases hr : r = k
      · subst hr
        show fup _ _ _ _ = _
        rw [fup_same, if_pos ⟨by omega, htu⟩]
      · show fup _ _ _ _ = _
        rw [fup_ne _ _ hr, h.ms]
        by_cases h2 : isTu ts r
        · by_cases h3 : r < k
          · rw [if_pos ⟨h3, h2⟩, if_pos ⟨by omega, h2⟩]
          · rw [if_neg fun e => h3 e.1, if_neg fun e => by omega]
        · rw [if_neg fun e => h2 e.2, if_neg fun e => h2 e.2]
    · rcases whGo_mem k _ _ x w hw with e | e
      · have := h.whr x w e
        exact ⟨this.1, by omega, this.2.2⟩
      · subst e
        exact ⟨by omega, by omega, by simpa using htu⟩
    · show (whGo k _ _ x).count _ = _
      rw [whGo_count k _ _ (fun j hj => (hv.kids k j hj).1), h.whc]
      by_cases hw : w = k
      · subst hw
        rw [if_neg (by omega), if_pos rfl, if_pos ⟨by omega, htu⟩]
        simp [kc]
      · rw [if_neg (show ¬ (w : Int) = (k : Int) by omega)]
        by_cases h2 : isTu ts w
        · by_cases h3 : w < k
          · rw [if_pos ⟨h3, h2⟩, if_pos ⟨by omega, h2⟩]; rfl
          · rw [if_neg fun e => h3 e.1, if_neg fun e => by omega]
        · rw [if_neg fun e => h2 e.2, if_neg fun e => h2 e.2]
    · have := h.fd.2 w hw
      exact ⟨this.1, by omega, this.2.2⟩
    · by_cases e : r = k
      · subst e; exact absurd htu hn
      · exact h.fda r (by omega) hn
  · rw [if_neg ht]
    have htu : ¬ isTu ts k := ht
    refine ⟨h.has, fun r => ?_, fun x w hw => ?_, fun x w => ?_, ⟨?_, fun w hw => ?_⟩, fun r hr hn => ?_⟩
    · show s.ms r = _
      rw [h.ms]
      by_cases h2 : isTu ts r
      · by_cases h3 : r < k
        · rw [if_pos ⟨h3, h2⟩, if_pos ⟨by omega, h2⟩]
        · rw [if_neg fun e => h3 e.1, if_neg fun e => by
            have : r = k := by omega
            subst this
            exact htu h2]
      · rw [if_neg fun e => h2 e.2, if_neg fun e => h2 e.2]
    · have := h.whr x w hw
      exact ⟨this.1, by omega, this.2.2⟩
    · show (s.wh x).count _ = _
      rw [h.whc]
      by_cases h2 : isTu ts w
      · by_cases h3 : w < k
        · rw [if_pos ⟨h3, h2⟩, if_pos ⟨by omega, h2⟩]
        · rw [if_neg fun e => h3 e.1, if_neg fun e => by
            have : w = k := by omega
            subst this
            exact htu h2]
      · rw [if_neg fun e => h2 e.2, if_neg fun e => h2 e.2]
    · show (s.fd ++ [(k : Int)]).Nodup
      rw [List.nodup_append]
      refine ⟨h.fd.1, by simp, fun a ha b hb => ?_⟩
      have := h.fd.2 a ha
      simp at hb
      omega
    · rcases List.mem_append.1 hw with e | e
      · have := h.fd.2 w e
        exact ⟨this.1, by omega, this.2.2⟩
      · simp at e
        subst e
        exact ⟨by omega, by omega, by simpa using htu⟩
    · by_cases e : r = k
      · subst e; exact List.mem_append.2 (.inr (by simp))
      · exact List.mem_append.2 (.inl (h.fda r (by omega) hn))
end Go.Proofs.YtadmpgegolmkgaaDoor
namespace Go.Proofs.YtadmpgegolmkgaaDoor
set_option linter.unusedVariables false
set_option linter.unusedSimpArgs false

theorem nodup_len : ∀ (n : Nat) (l : List Int), l.Nodup → (∀ x ∈ l, 0 ≤ x ∧ x < (n : Int)) → l.length ≤ n
  | 0, l, _, h => by
    cases l with
    | nil => simp
    | cons a r => have := h a List.mem_cons_self; omega
  | n + 1, l, hd, h => by
    by_cases hm : (n : Int) ∈ l
    · have h1 := nodup_len n (l.erase n) (hd.erase _) fun x hx => by
        have h2 := (List.Nodup.mem_erase_iff hd).1 hx
        have := h x h2.2
        omega
      rw [List.length_erase_of_mem hm] at h1
      omega
    · have h1 := nodup_len n l hd fun x hx => by
        have h2 := h x hx
        have : x ≠ n := fun e => hm (e ▸ hx)
        omega
      omega
/-- how many kids of a row are not known to have a default value -/
def cN (ts : List CTy) (has : Nat → Bool) (w : Nat) : Nat := (tyA ts w).kids.countP fun k => !has k.toNat
structure D3 (ts : List CTy) (has : Nat → Bool) (rem : List Int) (ms : Nat → Int) (fd : List Int) : Prop where
  em : ∀ w, ms w = if isTu ts w then (cN ts has w : Int) + rem.count (w : Int) else 0
  rr : ∀ w ∈ rem, 0 ≤ w ∧ w < (ts.length : Int) ∧ isTu ts w.toNat
  nd : fd.Nodup
  ef : ∀ w ∈ fd, 0 ≤ w ∧ w < (ts.length : Int) ∧ has w.toNat = false ∧ ms w.toNat = 0
  hm : ∀ w, has w = true → ms w = 0
theorem D3.step {ts : List CTy} {has : Nat → Bool} {w : Int} {rem : List Int} {ms : Nat → Int} {fd : List Int} (h : D3 ts has (w :: rem) ms fd) : D3 ts has rem (fup ms w.toNat (ms w.toNat - 1)) (if ms w.toNat - 1 = 0 then fd ++ [w] else fd) ∧ 1 ≤ ms w.toNat ∧ ms w.toNat ≤ cN ts has w.toNat + (w :: rem).length := by
  obtain ⟨r1, r2, r3⟩ := h.rr w List.mem_cons_self
  have hw : ((w.toNat : Nat) : Int) = w := by omega
  have hmw := h.em w.toNat
  rw [if_pos r3, hw, List.count_cons_self] at hmw
  have hcl := List.count_le_length (a := w) (l := rem)
  refine ⟨⟨fun v => ?_, fun v hv => h.rr v (List.mem_cons_of_mem _ hv), ?_, fun v hv => ?_, fun v hv => ?_⟩, by omega, by simp; omega⟩
  · by_cases hv : v = w.toNat
    · subst hv
      rw [fup_same, if_pos r3, hw]
      omega
    · rw [fup_ne _ _ hv, h.em v]
      have : ¬ w = (v : Int) := by omega
      rw [List.count_cons]
      simp [this]
  · split
    · rename_i h0
      rw [List.nodup_append]
      refine ⟨h.nd, by simp, fun a ha b hb => ?_⟩
      simp at hb
      intro e
      have := (h.ef a ha).2.2.2
      rw [e, hb] at this
      omega
    · exact h.nd
  · have hold : v ∈ fd → 0 ≤ v ∧ v < (ts.length : Int) ∧ has v.toNat = false ∧ fup ms w.toNat (ms w.toNat - 1) v.toNat = 0 := fun hv => by
      obtain ⟨a1, a2, a3, a4⟩ := h.ef v hv
      refine ⟨a1, a2, a3, ?_⟩
      rw [fup_ne _ _ (fun e => by rw [e] at a4; omega)]
      exact a4
    split at hv
    · rename_i h0
      rcases List.mem_append.1 hv with e | e
      · exact hold e
      · simp at e
        subst e
        refine ⟨r1, r2, ?_, by rw [fup_same]; exact h0⟩
        cases hh : has v.toNat with
        | false => rfl
        | true => have := h.hm _ hh; omega
    · exact hold hv
  · have h0 := h.hm v hv
    rw [fup_ne _ _ (fun e => by rw [e] at h0; omega)]
    exact h0
structure D2 (ts : List CTy) (s : DfS) : Prop where
  whr : ∀ x, ∀ w ∈ s.wh x, 0 ≤ w ∧ w < (ts.length : Int) ∧ isTu ts w.toNat
  whc : ∀ (x w : Nat), (s.wh x).count (w : Int) = if w < ts.length ∧ isTu ts w then kc ts w x else 0
  d3 : D3 ts s.has [] s.ms s.fd
theorem tu_lt {ts : List CTy} {w : Nat} (h : isTu ts w) : w < ts.length := by
  rcases Nat.lt_or_ge w ts.length with e | e
  · exact e
  · unfold isTu tyA at h
    rw [List.getD_eq_getElem?_getD, List.getElem?_eq_none e] at h
    simp [tyD] at h
theorem D1.two {ts : List CTy} {s : DfS} (h : D1 ts ts.length s) : D2 ts s := by
  refine ⟨h.whr, h.whc, ⟨fun w => ?_, fun w hw => by simp at hw, h.fd.1, fun w hw => ?_, fun w hw => ?_⟩⟩
  · rw [h.ms]
    by_cases ht : isTu ts w
    · rw [if_pos ⟨tu_lt ht, ht⟩, if_pos ht]
      have : cN ts s.has w = (tyA ts w).kids.length := by
        unfold cN
        rw [List.countP_eq_length]
        intro k hk
        simp [h.has]
      rw [this]
      simp
    · rw [if_neg fun e => ht e.2, if_neg ht]
  · obtain ⟨a1, a2, a3⟩ := h.fd.2 w hw
    refine ⟨a1, a2, h.has _, ?_⟩
    rw [h.ms, if_neg fun e => a3 e.2]
  · rw [h.has] at hw
    cases hw
theorem cN_take {ts : List CTy} (hv : TsV ts) {has : Nat → Bool} {x : Nat} (hx : has x = false) (w : Nat) : cN ts has w = cN ts (fup has x true) w + kc ts w x := by
  unfold cN kc
  have hk := hv.kids w
  generalize (tyA ts w).kids = l at *
  induction l with
  | nil => rfl
  | cons k r ih =>
    have h0 := hk k List.mem_cons_self
    have := ih fun j hj => hk j (List.mem_cons_of_mem _ hj)
    rw [List.countP_cons, List.countP_cons, List.count_cons, this]
    by_cases hkx : k.toNat = x
    · have e : k = (x : Int) := by omega
      subst e
      simp [fup, hx]
      omega
    · have e : ¬ k = (x : Int) := by omega
      simp [fup, hkx, e]
      omega
theorem D2.pop {ts : List CTy} {s : DfS} (h : D2 ts s) (hv : TsV ts) {rest : List Int} {x : Int} (hf : s.fd = rest ++ [x]) : 0 ≤ x ∧ x < (ts.length : Int) ∧ s.has x.toNat = false ∧ D3 ts (fup s.has x.toNat true) (s.wh x.toNat) s.ms rest := by
  have hx : x ∈ s.fd := by rw [hf]; simp
  obtain ⟨a1, a2, a3, a4⟩ := h.d3.ef x hx
  have hnd := h.d3.nd
  rw [hf, List.nodup_append] at hnd
  have hxe : ((x.toNat : Nat) : Int) = x := by omega
  refine ⟨a1, a2, a3, ⟨fun w => ?_, h.whr _, hnd.1, fun w hw => ?_, fun w hw => ?_⟩⟩
  · have e1 := h.d3.em w
    rw [e1]
    by_cases ht : isTu ts w
    · rw [if_pos ht, if_pos ht, cN_take hv a3 w, h.whc, if_pos ⟨tu_lt ht, ht⟩]
      simp
    · rw [if_neg ht, if_neg ht]
  · obtain ⟨b1, b2, b3, b4⟩ := h.d3.ef w (by rw [hf]; exact List.mem_append.2 (.inl hw))
    refine ⟨b1, b2, ?_, b4⟩
    have : w ≠ x := hnd.2.2 w hw x (by simp)
    rw [fup_ne _ _ (by omega)]
    exact b3
  · by_cases e : w = x.toNat
    · subst e; exact a4
    · rw [fup_ne _ _ e] at hw
      exact h.d3.hm w hw
def cH (n : Nat) (has : Nat → Bool) : Nat := (List.range n).countP fun i => !has i
theorem cH_pop {n x : Nat} {has : Nat → Bool} (hx : x < n) (h : has x = false) : cH n has = cH n (fup has x true) + 1 :=
  cnt_one hx (by simp [h]) (by simp [fup]) fun j hj => by simp [fup, hj]
theorem cH_le (n : Nat) (has : Nat → Bool) : cH n has ≤ n := by
  have := List.countP_le_length (p := fun i => !has i) (l := List.range n)
  simpa [cH] using this
/-- more fuel tells the same -/
theorem df2_step {ts : List CTy} {s : DfS} (hv : TsV ts) (h : D2 ts s) {rest : List Int} {x : Int} (hf : s.fd = rest ++ [x]) (f : Nat) : df2All (f + 1) s = df2All f (df2 s x.toNat rest) := by
  rw [df2All, hf]
  simp
theorem df2_done {s : DfS} (hf : s.fd = []) (f : Nat) : df2All f s = s := by
  cases f with
  | zero => rfl
  | succ f => rw [df2All, hf]; rfl
end Go.Proofs.YtadmpgegolmkgaaDoor
namespace Go.Proofs.YtadmpgegolmkgaaDoor
open Go.RowKit
set_option linter.unusedVariables false
set_option linter.unusedSimpArgs false

/-! ### rows in memory by functions -/
def rowF (n : Nat) (f : Nat → Value) : Array Value := ((List.range n).map f).toArray
theorem rowF_size (n : Nat) (f : Nat → Value) : (rowF n f).size = n := by simp [rowF]
theorem rowF_at {n : Nat} {f : Nat → Value} {i : Nat} (h : i < n) : (rowF n f)[i]? = some (f i) := by simp [rowF, h]
theorem rowF_set {n : Nat} {f : Nat → Value} {i : Nat} (h : i < n) (v : Value) : (rowF n f).setIfInBounds i v = rowF n (fup f i v) := by
  apply Array.ext_getElem?
  intro j
  by_cases hj : j < n
  · rw [rowF_at hj]
    by_cases e : i = j
    · subst e
      rw [Array.getElem?_setIfInBounds_self, rowF_size, if_pos h, fup_same]
    · rw [Array.getElem?_setIfInBounds_ne e, rowF_at hj, fup_ne _ _ (fun q => e q.symm)]
  · rw [Array.getElem?_eq_none (by simp [rowF_size]; omega), Array.getElem?_eq_none (by rw [rowF_size]; omega)]
theorem made_row (z : Value) (n : Nat) : madeCells #[z] n = rowF n fun _ => z := by
  apply Array.ext_getElem?
  intro j
  by_cases hj : j < n
  · rw [rowF_at hj]
    simp [madeCells, hj, Nat.mod_one]
  · rw [Array.getElem?_eq_none (by rw [size_madeCells]; omega), Array.getElem?_eq_none (by rw [rowF_size]; omega)]
theorem infoInt : (Tryd.prog.info? 3).map (fun i => (i.zero, i.size, i.bytes)) = some (some (.int .i64 0), 1, 8) := by kernel_rfl
theorem infoBool : (Tryd.prog.info? 4).map (fun i => (i.zero, i.size, i.bytes)) = some (some (.bool false), 1, 1) := by kernel_rfl
theorem infoSli : (Tryd.prog.info? 32).map (fun i => (i.zero, i.size, i.bytes)) = some (some (.slice none 0 0), 1, 24) := by kernel_rfl
theorem make_bF (w : World) (n : Nat) (hn : n ≤ 2147483648) : (Instr.makeSlice 41 (.int .i64 n) (.int .i64 n)).run Tryd.prog w = .ok (.slice (some ⟨w.heap.size, 0, none⟩) n n) (w.alloc (.cells (rowF n fun _ => .bool false) 4)) := by
  obtain ⟨i0, hi, hz0, hz1, hz2⟩ := info_parts infoBool
  have := run_make (P := Tryd.prog) w 41 4 i0 (.bool false) Tryd.underlying41 hi hz0 .i64 .i64 n n (by omega) (by omega) (by rw [hz2]; omega) (by omega)
  rw [hz1] at this
  rw [← made_row]
  simpa [Value.cells] using this
theorem make_iF (w : World) (n : Nat) (hn : n ≤ 2147483648) : (Instr.makeSlice 32 (.int .i64 n) (.int .i64 n)).run Tryd.prog w = .ok (.slice (some ⟨w.heap.size, 0, none⟩) n n) (w.alloc (.cells (rowF n fun _ => .int .i64 0) 3)) := by
  obtain ⟨i0, hi, hz0, hz1, hz2⟩ := info_parts infoInt
  have := run_make (P := Tryd.prog) w 32 3 i0 (.int .i64 0) Tryd.underlying32 hi hz0 .i64 .i64 n n (by omega) (by omega) (by rw [hz2]; omega) (by omega)
  rw [hz1] at this
  rw [← made_row]
  simpa [Value.cells] using this
theorem make_sF (w : World) (n : Nat) (hn : n ≤ 2147483648) : (Instr.makeSlice 103 (.int .i64 n) (.int .i64 n)).run Tryd.prog w = .ok (.slice (some ⟨w.heap.size, 0, none⟩) n n) (w.alloc (.cells (rowF n fun _ => .slice none 0 0) 32)) := by
  obtain ⟨i0, hi, hz0, hz1, hz2⟩ := info_parts infoSli
  have := run_make (P := Tryd.prog) w 103 32 i0 (.slice none 0 0) Tryd.underlying103 hi hz0 .i64 .i64 n n (by omega) (by omega) (by rw [hz2]; omega) (by omega)
  rw [hz1] at this
  rw [← made_row]
  simpa [Value.cells] using this
/-! ### a family of rows of one's own -/
def intL (l : List Int) : List Value := l.map (Value.int .i64)
structure Fam (W : World) (base m : Nat) (va : Nat → Value) (S : Nat → List Int) : Prop where
  own : ∀ r, r < m → W.ownsRow base 3 1 (va r) (S r).length (intL (S r))
  ne : ∀ r r', r < m → r' < m → r ≠ r' → ∀ g, (va r).ownBlock = some g → (va r').ownBlock ≠ some g
theorem Fam.same {W W' : World} {base m : Nat} {va : Nat → Value} {S : Nat → List Int} (h : Fam W base m va S) (hb : ∀ k, base ≤ k → k < W.heap.size → W'.heap[k]? = W.heap[k]?) : Fam W' base m va S :=
  ⟨fun r hr => owns_same (h.own r hr) hb, h.ne⟩
theorem Fam.slice {W : World} {base m : Nat} {va : Nat → Value} {S : Nat → List Int} (h : Fam W base m va S) {r : Nat} (hr : r < m) : ∃ a c, va r = .slice a (S r).length c := owns_slice (h.own r hr)
theorem Fam.push {W : World} {base m : Nat} {va : Nat → Value} {S : Nat → List Int} (h : Fam W base m va S) {r : Nat} (hr : r < m) (hB : base ≤ W.heap.size) (x : Int) (hn : (S r).length ≤ 4294967296) :
    ∃ g c W3, (∀ ty, (Builtin.append_ #[32, 32] ty #[va r, .slice (some ⟨W.heap.size, 0, none⟩) 1 1]).run Tryd.prog (W.alloc (.cells #[.int .i64 x] 3)) = .ok (.slice (some ⟨g, 0, none⟩) ((S r).length + 1) c) W3) ∧ Bx (Fam W3 base m (fup va r (.slice (some ⟨g, 0, none⟩) ((S r).length + 1) c)) (fup S r (S r ++ [x])) ∧ W.grownBy W3 (va r).ownBlock ∧ ∀ k, k < base → W3.heap[k]? = W.heap[k]?) := by
  obtain ⟨i0, hi, hz0, hz1, hz2⟩ := info_parts infoInt
  obtain ⟨g, c, W3, r1, r2, r3, r4, r5⟩ := app1 (t := 32) Tryd.underlying32 hi hz0 hz1 hz2 rfl (by decide) W base (va r) (S r).length (intL (S r)) (h.own r hr) #[.int .i64 x] rfl (by intro u hu; simp at hu; subst hu; rfl) (by unfold maxLen; omega) (by omega) hB
  have hlow : ∀ k, k < base → W3.heap[k]? = W.heap[k]? := fun k hk => r3.block k (by omega) fun e => by
    have := own_base (h.own r hr) k e.symm
    omega
  refine ⟨g, c, W3, r1, ⟨⟨fun q hq => ?_, fun q q' hq hq' hne g' hg => ?_⟩, r3, hlow⟩⟩
  · by_cases e : q = r
    · subst e
      rw [fup_same, fup_same]
      have e2 : intL (S q ++ [x]) = intL (S q) ++ (#[Value.int .i64 x] : Array Value).toList := by simp [intL]
      rw [e2, List.length_append]
      exact r2
    · rw [fup_ne _ _ e, fup_ne _ _ e]
      exact own_same (h.own q hq) fun y o hy ho => grown_at r3 ho fun eq => h.ne q r hq hr e y hy eq
  · by_cases e : q = r
    · subst e
      rw [fup_same] at hg
      rw [fup_ne _ _ (fun e2 => hne e2.symm)]
      simp only [Value.ownBlock, Option.some.injEq] at hg
      subst hg
      rcases r5 with e5 | e5
      · exact h.ne q q' hr hq' hne g e5
      · intro hg'
        have := owns_block (h.own q' hq') hg'
        omega
    · rw [fup_ne _ _ e] at hg
      by_cases e' : q' = r
      · subst e'
        rw [fup_same]
        simp only [Value.ownBlock, ne_eq, Option.some.injEq]
        intro eg
        subst eg
        rcases r5 with e5 | e5
        · exact h.ne q q' hq hr e g hg e5
        · have := owns_block (h.own q hq) hg
          omega
      · rw [fup_ne _ _ e']
        exact h.ne q q' hq hq' hne g' hg
theorem Fam.pop {W : World} {base m : Nat} {va : Nat → Value} {S : Nat → List Int} (h : Fam W base m va S) {r : Nat} (hr : r < m) {rest : List Int} {x : Int} (hs : S r = rest ++ [x]) : ∃ g c, va r = .slice (some ⟨g, 0, none⟩) (rest.length + 1) c ∧ rest.length + 1 ≤ c ∧ W.cell? ⟨g, rest.length, none⟩ = some (.int .i64 x) ∧ g < W.heap.size ∧ Fam W base m (fup va r (.slice (some ⟨g, 0, none⟩) rest.length c)) (fup S r rest) := by
  have ho := h.own r hr
  rw [hs] at ho
  have hl : (rest ++ [x]).length = rest.length + 1 := by simp
  rw [hl] at ho
  obtain ⟨a, c, e⟩ := owns_slice ho
  have ho2 := ho
  rcases ho.2 with ⟨e1, e2⟩ | ⟨g, cap, cur, e1, hg, hb, hcap, _⟩
  · omega
  · rw [e1] at ho
    have hi : intL (rest ++ [x]) = intL rest ++ [.int .i64 x] := by simp [intL]
    refine ⟨g, cap, e1, hcap, owns_cellj ho (by rw [hi, List.getElem?_append_right (by simp [intL])]; simp [intL]), (Array.getElem?_eq_some_iff.1 hb).1, ⟨fun q hq => ?_, fun q q' hq hq' hne g' hg' => ?_⟩⟩
    · by_cases e : q = r
      · subst e
        rw [fup_same, fup_same]
        rw [hi] at ho
        exact owns_cut ho (by simp [intL]) (by omega)
      · rw [fup_ne _ _ e, fup_ne _ _ e]
        exact h.own q hq
    · have hq1 : ∀ q, (fup va r (.slice (some ⟨g, 0, none⟩) rest.length cap) q).ownBlock = (va q).ownBlock := fun q => by
        by_cases e : q = r
        · subst e; rw [fup_same, e1]; rfl
        · rw [fup_ne _ _ e]
      rw [hq1] at hg' ⊢
      exact h.ne q q' hq hq' hne g' hg'
theorem Fam.cell {W : World} {base m : Nat} {va : Nat → Value} {S : Nat → List Int} (h : Fam W base m va S) {r : Nat} (hr : r < m) {i : Nat} (hi : i < (S r).length) : ∃ g c, va r = .slice (some ⟨g, 0, none⟩) (S r).length c ∧ (S r).length ≤ c ∧ g < W.heap.size ∧ W.cell? ⟨g, i, none⟩ = some (.int .i64 (S r)[i]) := by
  have ho := h.own r hr
  rcases ho.2 with ⟨e1, e2⟩ | ⟨g, cap, cur, e1, hg, hb, hcap, _⟩
  · omega
  · rw [e1] at ho
    exact ⟨g, cap, e1, hcap, (Array.getElem?_eq_some_iff.1 hb).1, owns_cellj ho (by simp [intL, hi])⟩
end Go.Proofs.YtadmpgegolmkgaaDoor
namespace Go.Proofs.YtadmpgegolmkgaaDoor
open Go.RowKit
set_option linter.unusedVariables false
set_option linter.unusedSimpArgs false

def famS (n : Nat) (s : DfS) : Nat → List Int := fun r => if r = n then s.fd else s.wh r
structure DfM (w W : World) (hb mb ob base n : Nat) (va : Nat → Value) (s : DfS) : Prop where
  bel : Below w.heap.size w W
  hs : W.heap[hb]? = some (.cells (rowF n fun i => .bool (s.has i)) 4 (0, 0))
  mm : W.heap[mb]? = some (.cells (rowF n fun i => .int .i64 (s.ms i)) 3 (0, 0))
  oo : W.heap[ob]? = some (.cells (rowF n va) 32 (0, 0))
  fam : Fam W base (n + 1) va (famS n s)
  lo : w.heap.size ≤ hb ∧ w.heap.size ≤ mb ∧ w.heap.size ≤ ob
  lt : hb < base ∧ mb < base ∧ ob < base ∧ base ≤ W.heap.size
  ne : hb ≠ mb ∧ hb ≠ ob ∧ mb ≠ ob
theorem rowF_congr {n : Nat} {f g : Nat → Value} (h : ∀ i, i < n → f i = g i) : rowF n f = rowF n g := by
  unfold rowF
  congr 1
  exact List.map_congr_left fun i hi => h i (List.mem_range.1 hi)
theorem famS_fd (n : Nat) (s : DfS) (l : List Int) : fup (famS n s) n l = famS n ⟨s.has, s.ms, s.wh, l⟩ := by
  funext r
  by_cases h : r = n
  · subst h; rw [fup_same]; simp [famS]
  · rw [fup_ne _ _ h]; simp [famS, h]
theorem famS_wh (n : Nat) (s : DfS) {k : Nat} (hk : k < n) (l : List Int) : fup (famS n s) k l = famS n ⟨s.has, s.ms, fup s.wh k l, s.fd⟩ := by
  funext r
  by_cases h : r = k
  · subst h
    rw [fup_same]
    simp [famS, Nat.ne_of_lt hk, fup_same]
  · rw [fup_ne _ _ h]
    by_cases h2 : r = n
    · subst h2; simp [famS]
    · simp [famS, h2, fup_ne _ _ h]
theorem famS_n (n : Nat) (s : DfS) : famS n s n = s.fd := by simp [famS]
theorem famS_k {n : Nat} (s : DfS) {k : Nat} (hk : k < n) : famS n s k = s.wh k := by simp [famS, Nat.ne_of_lt hk]
theorem DfM.later {w W W' : World} {hb mb ob base n : Nat} {va : Nat → Value} {s : DfS} (h : DfM w W hb mb ob base n va s) (hb' : Below W.heap.size W W') : DfM w W' hb mb ob base n va s := by
  obtain ⟨l1, l2, l3, l4⟩ := h.lt
  exact ⟨h.bel.trans (hb'.mono h.bel.size), (hb'.block _ (by omega)).trans h.hs, (hb'.block _ (by omega)).trans h.mm, (hb'.block _ (by omega)).trans h.oo, h.fam.same fun k _ hk => hb'.block k hk, h.lo, ⟨l1, l2, l3, Nat.le_trans l4 hb'.size⟩, h.ne⟩
theorem DfM.pushF {w W : World} {hb mb ob base n : Nat} {va : Nat → Value} {s : DfS} (h : DfM w W hb mb ob base n va s) (x : Int) (hn : s.fd.length ≤ 4294967296) :
    ∃ g c W3, (∀ ty, (Builtin.append_ #[32, 32] ty #[va n, .slice (some ⟨W.heap.size, 0, none⟩) 1 1]).run Tryd.prog (W.alloc (.cells #[.int .i64 x] 3)) = .ok (.slice (some ⟨g, 0, none⟩) (s.fd.length + 1) c) W3) ∧ Bx (DfM w W3 hb mb ob base n (fup va n (.slice (some ⟨g, 0, none⟩) (s.fd.length + 1) c)) ⟨s.has, s.ms, s.wh, s.fd ++ [x]⟩) := by
  obtain ⟨l1, l2, l3, l4⟩ := h.lt
  obtain ⟨g, c, W3, r, hx⟩ := h.fam.push (r := n) (by omega) l4 x (by rw [famS_n]; exact hn)
  rw [famS_n] at r hx
  obtain ⟨f, gr, low⟩ := hx.out
  have hlo := h.lo
  refine ⟨g, c, W3, r, ⟨⟨gr.os.trans h.bel.os, gr.tape.trans h.bel.tape, gr.output.trans h.bel.output, Nat.le_trans h.bel.size gr.size, fun k hk => (low k (by omega)).trans (h.bel.block k hk)⟩, (low _ l1).trans h.hs, (low _ l2).trans h.mm, ?_, by rw [← famS_fd]; exact f, hlo, ⟨l1, l2, l3, Nat.le_trans l4 gr.size⟩, h.ne⟩⟩
  rw [low _ l3, h.oo]
  congr 2
  refine rowF_congr fun i hi => ?_
  rw [fup_ne _ _ (Nat.ne_of_lt hi)]
theorem DfM.pushW {w W : World} {hb mb ob base n : Nat} {va : Nat → Value} {s : DfS} (h : DfM w W hb mb ob base n va s) {k : Nat} (hk : k < n) (x : Int) (hn : (s.wh k).length ≤ 4294967296) :
    ∃ g c W3, (∀ ty, (Builtin.append_ #[32, 32] ty #[va k, .slice (some ⟨W.heap.size, 0, none⟩) 1 1]).run Tryd.prog (W.alloc (.cells #[.int .i64 x] 3)) = .ok (.slice (some ⟨g, 0, none⟩) ((s.wh k).length + 1) c) W3) ∧ W3.cell? ⟨ob, k, none⟩ = some (va k) ∧ W3.frozen? ⟨ob, k, none⟩ = false ∧ Bx (DfM w (W3.setCell ⟨ob, k, none⟩ (.slice (some ⟨g, 0, none⟩) ((s.wh k).length + 1) c)) hb mb ob base n (fup va k (.slice (some ⟨g, 0, none⟩) ((s.wh k).length + 1) c)) ⟨s.has, s.ms, fup s.wh k (s.wh k ++ [x]), s.fd⟩) := by
  obtain ⟨l1, l2, l3, l4⟩ := h.lt
  obtain ⟨g, c, W3, r, hx⟩ := h.fam.push (r := k) (by omega) l4 x (by rw [famS_k s hk]; exact hn)
  rw [famS_k s hk] at r hx
  obtain ⟨f, gr, low⟩ := hx.out
  have hlo := h.lo
  have ho3 : W3.heap[ob]? = some (.cells (rowF n va) 32 (0, 0)) := (low _ l3).trans h.oo
  have hc : ∀ j, j ≠ ob → (W3.setCell ⟨ob, k, none⟩ (.slice (some ⟨g, 0, none⟩) ((s.wh k).length + 1) c)).heap[j]? = W3.heap[j]? := fun j hj => Below.heap_setCell W3 ⟨ob, k, none⟩ _ j hj
  have hs : (W3.setCell ⟨ob, k, none⟩ (.slice (some ⟨g, 0, none⟩) ((s.wh k).length + 1) c)).heap.size = W3.heap.size := by simp
  refine ⟨g, c, W3, r, cell_blk ho3 (rowF_at hk), frz_blk ho3, ⟨⟨gr.os.trans h.bel.os, gr.tape.trans h.bel.tape, gr.output.trans h.bel.output, by rw [hs]; exact Nat.le_trans h.bel.size gr.size, fun j hj => (hc j (by omega)).trans ((low j (by omega)).trans (h.bel.block j hj))⟩, (hc _ h.ne.2.1).trans ((low _ l1).trans h.hs), (hc _ h.ne.2.2).trans ((low _ l2).trans h.mm), ?_, ?_, hlo, ⟨l1, l2, l3, by rw [hs]; exact Nat.le_trans l4 gr.size⟩, h.ne⟩⟩
  · rw [← rowF_set hk]
    exact heap_setCell_same W3 ob k _ 32 _ ho3
  · rw [← famS_wh n s hk]
    exact f.same fun j h1 h2 => hc j (by omega)
theorem DfM.setM {w W : World} {hb mb ob base n : Nat} {va : Nat → Value} {s : DfS} (h : DfM w W hb mb ob base n va s) {k : Nat} (hk : k < n) (x : Int) : DfM w (W.setCell ⟨mb, k, none⟩ (.int .i64 x)) hb mb ob base n va ⟨s.has, fup s.ms k x, s.wh, s.fd⟩ := by
  obtain ⟨l1, l2, l3, l4⟩ := h.lt
  have hc : ∀ j, j ≠ mb → (W.setCell ⟨mb, k, none⟩ (.int .i64 x)).heap[j]? = W.heap[j]? := fun j hj => Below.heap_setCell W ⟨mb, k, none⟩ _ j hj
  have hs : (W.setCell ⟨mb, k, none⟩ (.int .i64 x)).heap.size = W.heap.size := by simp
  have hlo := h.lo
  refine ⟨⟨h.bel.os, h.bel.tape, h.bel.output, by rw [hs]; exact h.bel.size, fun j hj => (hc j (by omega)).trans (h.bel.block j hj)⟩, (hc _ h.ne.1).trans h.hs, ?_, (hc _ (fun e => h.ne.2.2 e.symm)).trans h.oo, h.fam.same fun j h1 h2 => hc j (by omega), hlo, ⟨l1, l2, l3, by rw [hs]; exact l4⟩, h.ne⟩
  have := heap_setCell_same W mb k _ 3 (.int .i64 x) h.mm
  rw [rowF_set hk] at this
  rw [this]
  congr 2
  refine rowF_congr fun i hi => ?_
  by_cases e : i = k
  · subst e
    show fup _ _ _ _ = Value.int .i64 (fup _ _ _ _)
    rw [fup_same, fup_same]
  · show fup _ _ _ _ = Value.int .i64 (fup _ _ _ _)
    rw [fup_ne _ _ e, fup_ne _ _ e]
theorem DfM.setH {w W : World} {hb mb ob base n : Nat} {va : Nat → Value} {s : DfS} (h : DfM w W hb mb ob base n va s) {k : Nat} (hk : k < n) (x : Bool) : DfM w (W.setCell ⟨hb, k, none⟩ (.bool x)) hb mb ob base n va ⟨fup s.has k x, s.ms, s.wh, s.fd⟩ := by
  obtain ⟨l1, l2, l3, l4⟩ := h.lt
  have hc : ∀ j, j ≠ hb → (W.setCell ⟨hb, k, none⟩ (.bool x)).heap[j]? = W.heap[j]? := fun j hj => Below.heap_setCell W ⟨hb, k, none⟩ _ j hj
  have hs : (W.setCell ⟨hb, k, none⟩ (.bool x)).heap.size = W.heap.size := by simp
  have hlo := h.lo
  refine ⟨⟨h.bel.os, h.bel.tape, h.bel.output, by rw [hs]; exact h.bel.size, fun j hj => (hc j (by omega)).trans (h.bel.block j hj)⟩, ?_, (hc _ (fun e => h.ne.1 e.symm)).trans h.mm, (hc _ (fun e => h.ne.2.1 e.symm)).trans h.oo, h.fam.same fun j h1 h2 => hc j (by omega), hlo, ⟨l1, l2, l3, by rw [hs]; exact l4⟩, h.ne⟩
  have := heap_setCell_same W hb k _ 4 (.bool x) h.hs
  rw [rowF_set hk] at this
  rw [this]
  congr 2
  refine rowF_congr fun i hi => ?_
  by_cases e : i = k
  · subst e
    show fup _ _ _ _ = Value.bool (fup _ _ _ _)
    rw [fup_same, fup_same]
  · show fup _ _ _ _ = Value.bool (fup _ _ _ _)
    rw [fup_ne _ _ e, fup_ne _ _ e]
theorem DfM.cells {w W : World} {hb mb ob base n : Nat} {va : Nat → Value} {s : DfS} (h : DfM w W hb mb ob base n va s) {k : Nat} (hk : k < n) : W.cell? ⟨hb, k, none⟩ = some (.bool (s.has k)) ∧ W.cell? ⟨mb, k, none⟩ = some (.int .i64 (s.ms k)) ∧ W.cell? ⟨ob, k, none⟩ = some (va k) ∧ W.frozen? ⟨hb, k, none⟩ = false ∧ W.frozen? ⟨mb, k, none⟩ = false ∧ W.frozen? ⟨ob, k, none⟩ = false :=
  ⟨cell_blk h.hs (rowF_at hk), cell_blk h.mm (rowF_at hk), cell_blk h.oo (rowF_at hk), frz_blk h.hs, frz_blk h.mm, frz_blk h.oo⟩
theorem DfM.popF {w W : World} {hb mb ob base n : Nat} {va : Nat → Value} {s : DfS} (h : DfM w W hb mb ob base n va s) {rest : List Int} {x : Int} (hf : s.fd = rest ++ [x]) :
    ∃ g c, va n = .slice (some ⟨g, 0, none⟩) (rest.length + 1) c ∧ rest.length + 1 ≤ c ∧ W.cell? ⟨g, rest.length, none⟩ = some (.int .i64 x) ∧ g < W.heap.size ∧ Bx (DfM w W hb mb ob base n (fup va n (.slice (some ⟨g, 0, none⟩) rest.length c)) ⟨s.has, s.ms, s.wh, rest⟩) := by
  obtain ⟨g, c, e1, e2, e3, e4, e5⟩ := h.fam.pop (r := n) (by omega) (by rw [famS_n]; exact hf)
  refine ⟨g, c, e1, e2, e3, e4, ⟨⟨h.bel, h.hs, h.mm, ?_, by rw [← famS_fd]; exact e5, h.lo, h.lt, h.ne⟩⟩⟩
  rw [h.oo]
  congr 2
  refine rowF_congr fun i hi => ?_
  rw [fup_ne _ _ (Nat.ne_of_lt hi)]
/-- the rows at the beginning -/
theorem dfm_zero (w : World) (n : Nat) {W : World} (hW : ((w.alloc (.cells (rowF n fun _ => .bool false) 4)).alloc (.cells (rowF n fun _ => .int .i64 0) 3)).alloc (.cells (rowF n fun _ => .slice none 0 0) 32) = W) : DfM w W w.heap.size (w.heap.size + 1) (w.heap.size + 2) (w.heap.size + 3) n (fun _ => .slice none 0 0) df0 := by
  obtain ⟨W1, h1⟩ : ∃ W1, w.alloc (.cells (rowF n fun _ => .bool false) 4) = W1 := ⟨_, rfl⟩
  obtain ⟨W2, h2⟩ : ∃ W2, W1.alloc (.cells (rowF n fun _ => .int .i64 0) 3) = W2 := ⟨_, rfl⟩
  rw [h1, h2] at hW
  have z1 : W1.heap.size = w.heap.size + 1 := by rw [← h1]; simp
  have z2 : W2.heap.size = w.heap.size + 2 := by rw [← h2]; simp [z1]
  have z3 : W.heap.size = w.heap.size + 3 := by rw [← hW]; simp [z2]
  have b1 : Below w.heap.size w W1 := by rw [← h1]; exact below1 w _
  have b2 : Below W1.heap.size W1 W2 := by rw [← h2]; exact below1 W1 _
  have b3 : Below W2.heap.size W2 W := by rw [← hW]; exact below1 W2 _
  have q1 : W1.heap[w.heap.size]? = some (.cells (rowF n fun _ => .bool false) 4 (0, 0)) := by rw [← h1]; exact heap_newH _ _ _ rfl
  have q2 : W2.heap[w.heap.size + 1]? = some (.cells (rowF n fun _ => .int .i64 0) 3 (0, 0)) := by rw [← h2]; exact heap_newH _ _ _ z1
  have q3 : W.heap[w.heap.size + 2]? = some (.cells (rowF n fun _ => .slice none 0 0) 32 (0, 0)) := by rw [← hW]; exact heap_newH _ _ _ z2
  exact ⟨b1.trans ((b2.mono (by omega)).trans (b3.mono (by omega))), (b3.block _ (by omega)).trans ((b2.block _ (by omega)).trans q1), (b3.block _ (by omega)).trans q2, q3, ⟨fun r hr => ⟨by simp [famS, df0, intL], .inl ⟨rfl, by simp [famS, df0]⟩⟩, fun r r' _ _ _ g hg => by simp [Value.ownBlock] at hg⟩, by omega, by omega, by omega⟩
end Go.Proofs.YtadmpgegolmkgaaDoor
