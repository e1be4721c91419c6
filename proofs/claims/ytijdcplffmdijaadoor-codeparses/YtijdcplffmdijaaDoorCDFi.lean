import Derived.Test.YtijdcplffmdijaaDoorCDEf
namespace Go.Proofs.YtijdcplffmdijaaDoor
open Go.RowKit
set_option linter.unusedVariables false
set_option linter.unusedSimpArgs false

/-- what beyond answers -/
def BeyA (w : World) (u : CUn) (e : Ending) (w' : World) : Prop := ∃ b : Bool, e = .returned (.bool b) ∧ Bx ((b = false → unS u ≤ 2147483647) ∧ Below w.heap.size w w')
set_option maxRecDepth 100000 in
set_option maxHeartbeats 4000000 in
theorem beyond_any (w : World) (u : CUn) (pa ta : Option Addr) (pc tc : Nat) (hu : UnIn w w.heap.size pa pc ta tc u) :
    Calls Tryd.prog 20 #[unV u pa pc ta tc] w (BeyA w u) := by
  obtain ⟨Q, hQ⟩ : ∃ Q, Q = BeyA w u := ⟨_, rfl⟩
  obtain ⟨H, hH⟩ : ∃ H, w.heap.size = H := ⟨_, rfl⟩
  have HQ : Bx (∀ e w' (b : Bool), e = .returned (.bool b) → (b = false → unS u ≤ 2147483647) → Below H w w' → Q e w') := ⟨fun e w' b h1 h2 h3 => by rw [hQ]; exact ⟨b, h1, ⟨h2, by rw [hH]; exact h3⟩⟩⟩
  rw [← hQ]
  clear hQ
  obtain ⟨np, hnp⟩ : ∃ n, u.progs.length = n := ⟨_, rfl⟩
  obtain ⟨nt, hnt⟩ : ∃ n, u.types.length = n := ⟨_, rfl⟩
  unfold unV
  rw [hnp, hnt]
  obtain ⟨X, hX⟩ : ∃ X, w.alloc (.cells #[.slice pa np pc, .slice ta nt tc] 36) = X := ⟨_, rfl⟩
  have bX : Below H w X := by rw [← hX, ← hH]; exact below1 w _
  have q1 : X.heap[H]? = some (.cells #[.slice pa np pc, .slice ta nt tc] 36 (0, 0)) := by rw [← hX, ← hH]; exact heap_alloc_new w _
  have c0 : X.cell? ⟨H, 0, none⟩ = some (.slice pa np pc) := (cell_of_row X _ 0 _ _ _ q1).trans rfl
  have c1 : X.cell? ⟨H, 1, none⟩ = some (.slice ta nt tc) := (cell_of_row X _ 1 _ _ _ q1).trans rfl
  have hg := hu.below (hH ▸ bX) bX.size
  have HMo : Bx (∀ n k : Nat, n ≤ 2147483648 → k ≤ 2147483648 → _) := ⟨fun n k h1 h2 => more_any X n k h1 h2⟩
  have HMa : Bx (∀ n : Nat, n ≤ 9223372036854775807 → _) := ⟨fun n h => many_any X n h⟩
  have htm := hg.types.max
  have hpm := hg.progs.max
  have htc := hg.types.cap
  have hpc := hg.progs.cap
  rw [hnt] at htm htc
  rw [hnp] at hpm hpc
  unfold maxLen at htm hpm
  have HG : Bx _ := ⟨hg⟩
  have BX : Bx _ := ⟨bX⟩
  clear hu hg q1 bX
  go_enter Tryd.func20, Tryd.ntmps20
  go_wp2
  go_loopw [4, 3] (fun x y wr => ∃ i m : Nat, i ≤ nt ∧ x = .int .i64 i ∧ y = .int .i64 m ∧ X = wr ∧ Bx (Ct m (sumF tS (u.types.take i)))) (fun x _ _ => nt - (intOf x).toNat)
  case atStart => exact ⟨0, 0, Nat.zero_le _, rfl, rfl, rfl, ⟨by simp [Ct, sumF]⟩⟩
  case round =>
    obtain ⟨i, m, hi, rfl, rfl, rfl, HC⟩ := hrel
    by_cases hlt : i < nt
    · by_cases hmb : m ≤ 2147483647
      · have hi' : i < u.types.length := by omega
        obtain ⟨b, o, rfl, hbl, hj⟩ := HG.out.types.at_ (by omega)
        obtain ⟨ka, kc, p0, p1, p2, p3⟩ := (hj i hi').ex
        have hkm := p3.max
        unfold maxLen at hkm
        have HC2 : Bx (Ct (moreN (moreN m 40) (manyN u.types[i].kids.length)) (sumF tS (u.types.take (i + 1)))) := ⟨by
          rw [sumF_succ tS u.types i hi']
          exact HC.out.add moreN_le⟩
        generalize u.types[i].kids.length = kl at *
        have g0 : (m : Int) ≤ 2147483647 := by omega
        have H1 := HMo.out m 40 (by omega) (by omega)
        have H2 := HMa.out kl (by omega)
        have H3 := HMo.out (moreN m 40) (manyN kl) moreN_le manyN_le
        have u1 : moreN m 40 ≤ 2147483648 := moreN_le
        clear hj p0 p2 p3 HC
        generalize moreN (moreN m 40) (manyN kl) = m2 at *
        generalize moreN m 40 = m1 at *
        generalize manyN kl = mk at *
        go_wp2_with (first
          | (go_at_call 35; refine H1.mono ?_; clear H1; rintro e w1 ⟨rfl, rfl⟩)
          | (go_at_call 36; refine H2.mono ?_; clear H2; rintro e w1 ⟨rfl, rfl⟩)
          | (go_at_call 35; refine H3.mono ?_; clear H3; rintro e w1 ⟨rfl, rfl⟩))
        go_roundw
        case rel => exact ⟨i + 1, m2, by omega, by go_num, rfl, by first | rfl | trivial, HC2⟩
        case measure => simp [intOf]; omega
      · have g0 : ¬ (m : Int) ≤ 2147483647 := by omega
        have g1 : (i : Int) < (nt : Int) := by omega
        have HC1 : Bx (Ct m (sumF tS u.types)) := ⟨HC.out.1, fun h => absurd h hmb⟩
        clear HC hlt hmb
        go_wp2
        clear g0 g1
        go_loopw [5, 3] (fun x y wr => ∃ j m : Nat, j ≤ np ∧ x = .int .i64 j ∧ y = .int .i64 m ∧ X = wr ∧ Bx (Ct m (sumF tS u.types + sumF pS (u.progs.take j)))) (fun x _ _ => np - (intOf x).toNat)
        case atStart => exact ⟨0, m, Nat.zero_le _, rfl, rfl, rfl, ⟨by simpa [sumF] using HC1.out⟩⟩
        case round =>
          clear HC1 hi
          obtain ⟨j, mm, hj, rfl, rfl, rfl, HC⟩ := hrel
          by_cases hlt : j < np
          · by_cases hmb : mm ≤ 2147483647
            · have hj' : j < u.progs.length := by omega
              obtain ⟨b, o, rfl, hbl, hjj⟩ := HG.out.progs.at_ (by omega)
              obtain ⟨ca, cc, p0, p1, p2, p3, p4, p5⟩ := (hjj j hj').ex
              have HC2 : Bx (Ct (moreN mm 100) (sumF tS u.types + sumF pS (u.progs.take j) + 100 + sumF iS (u.progs[j].code.take 0))) := ⟨by
                have := HC.out.one (k := 100)
                simpa [sumF] using this⟩
              have hsu : sumF pS (u.progs.take (j + 1)) = sumF pS (u.progs.take j) + (100 + sumF iS u.progs[j].code) := sumF_succ pS u.progs j hj'
              have HSU : Bx _ := ⟨hsu⟩
              have P5 : Bx _ := ⟨p5⟩
              have hcm := p5.max
              have hcc := p5.cap
              unfold maxLen at hcm
              generalize u.progs[j].code = code at *
              obtain ⟨cn, hcn⟩ : ∃ n, code.length = n := ⟨_, rfl⟩
              rw [hcn] at p4 hcm hcc
              have HCN : Bx _ := ⟨hcn⟩
              have g0 : (mm : Int) ≤ 2147483647 := by omega
              have H1 := HMo.out mm 100 (by omega) (by omega)
              have u1 : moreN mm 100 ≤ 2147483648 := moreN_le
              clear hjj p0 p1 p2 p3 p5 HC hsu hcn
              generalize moreN mm 100 = m1 at *
              go_wp2_with (first
                | (go_at_call 35; refine H1.mono ?_; clear H1; rintro e w1 ⟨rfl, rfl⟩))
              go_loopw [6, 3] (fun x y wr => ∃ k n : Nat, k ≤ cn ∧ x = .int .i64 k ∧ y = .int .i64 n ∧ X = wr ∧ Bx (Ct n (sumF tS u.types + sumF pS (u.progs.take j) + 100 + sumF iS (code.take k)))) (fun x _ _ => cn - (intOf x).toNat)
              case atStart => exact ⟨0, m1, Nat.zero_le _, rfl, rfl, rfl, HC2⟩
              case round =>
                clear HC2
                obtain ⟨k, n, hk, rfl, rfl, rfl, HC⟩ := hrel
                by_cases hlk : k < cn
                · by_cases hnb : n ≤ 2147483647
                  · have hk' : k < code.length := by have := HCN.out; omega
                    obtain ⟨b2, o2, rfl, hbl2, hkk⟩ := P5.out.at_ (by omega)
                    obtain ⟨la, lc, q0, q1, q2, q3, q4⟩ := (hkk k hk').ex
                    have hkm := q4.max
                    unfold maxLen at hkm
                    have HC2 : Bx (Ct (moreN (moreN n 60) (manyN code[k].list.length)) (sumF tS u.types + sumF pS (u.progs.take j) + 100 + sumF iS (code.take (k + 1)))) := ⟨by
                      rw [sumF_succ iS code k hk', ← Nat.add_assoc]
                      exact HC.out.add moreN_le⟩
                    generalize code[k].list.length = kl at *
                    have g2 : (n : Int) ≤ 2147483647 := by omega
                    have h2a : (k : Int) < (cn : Int) := by omega
                    have H1 := HMo.out n 60 (by omega) (by omega)
                    have H2 := HMa.out kl (by omega)
                    have H3 := HMo.out (moreN n 60) (manyN kl) moreN_le manyN_le
                    clear hkk q0 q1 q2 q4 HC
                    generalize moreN (moreN n 60) (manyN kl) = n2 at *
                    generalize moreN n 60 = n1 at *
                    generalize manyN kl = mk at *
                    go_wp2_with (first
                      | (go_at_call 35; refine H1.mono ?_; clear H1; rintro e w1 ⟨rfl, rfl⟩)
                      | (go_at_call 36; refine H2.mono ?_; clear H2; rintro e w1 ⟨rfl, rfl⟩)
                      | (go_at_call 35; refine H3.mono ?_; clear H3; rintro e w1 ⟨rfl, rfl⟩))
                    go_roundw
                    case rel => exact ⟨k + 1, n2, by omega, by go_num, rfl, by first | rfl | trivial, HC2⟩
                    case measure => simp [intOf]; omega
                  · have g2 : ¬ (n : Int) ≤ 2147483647 := by omega
                    have h2a : (k : Int) < (cn : Int) := by omega
                    have HC2 : Bx (Ct n (sumF tS u.types + sumF pS (u.progs.take (j + 1)))) := ⟨HC.out.1, fun h => absurd h hnb⟩
                    clear HC
                    go_wp2
                    go_roundw
                    case rel => exact ⟨j + 1, n, by omega, by go_num, rfl, by first | rfl | trivial, HC2⟩
                    case measure => simp [intOf]; omega
                · have h2a : ¬ (k : Int) < (cn : Int) := by omega
                  have HC2 : Bx (Ct n (sumF tS u.types + sumF pS (u.progs.take (j + 1)))) := ⟨by
                    have := HC.out
                    rw [List.take_of_length_le (l := code) (by have := HCN.out; omega)] at this
                    rw [HSU.out, ← Nat.add_assoc, ← Nat.add_assoc]
                    exact this⟩
                  clear HC
                  go_wp2
                  go_roundw
                  case rel => exact ⟨j + 1, n, by omega, by go_num, rfl, by first | rfl | trivial, HC2⟩
                  case measure => simp [intOf]; omega
            · have g0 : ¬ (mm : Int) ≤ 2147483647 := by omega
              have h2a : (j : Int) < (np : Int) := by omega
              have g3 : (2147483647 : Int) < (mm : Int) := by omega
              go_wp2
              exact HQ.out _ _ true rfl (fun h => by cases h) BX.out
          · have h2a : ¬ (j : Int) < (np : Int) := by omega
            have HC1 : Bx (mm ≤ 2147483647 → unS u ≤ 2147483647) := ⟨fun h => by
              have := HC.out
              rw [List.take_of_length_le (by omega)] at this
              have e := this.2 h
              unfold unS
              omega⟩
            clear HC
            go_wp2
            exact HQ.out _ _ (decide ((2147483647 : Int) < (mm : Int))) rfl (fun h => HC1.out (by simp at h; omega)) BX.out
    · have g1 : ¬ (i : Int) < (nt : Int) := by omega
      have HC1 : Bx (Ct m (sumF tS u.types)) := ⟨by have := HC.out; rw [List.take_of_length_le (by omega)] at this; exact this⟩
      clear HC hlt
      go_wp2
      clear g1
      go_loopw [5, 3] (fun x y wr => ∃ j m : Nat, j ≤ np ∧ x = .int .i64 j ∧ y = .int .i64 m ∧ X = wr ∧ Bx (Ct m (sumF tS u.types + sumF pS (u.progs.take j)))) (fun x _ _ => np - (intOf x).toNat)
      case atStart => exact ⟨0, m, Nat.zero_le _, rfl, rfl, rfl, ⟨by simpa [sumF] using HC1.out⟩⟩
      case round =>
        clear HC1 hi
        obtain ⟨j, mm, hj, rfl, rfl, rfl, HC⟩ := hrel
        by_cases hlt : j < np
        · by_cases hmb : mm ≤ 2147483647
          · have hj' : j < u.progs.length := by omega
            obtain ⟨b, o, rfl, hbl, hjj⟩ := HG.out.progs.at_ (by omega)
            obtain ⟨ca, cc, p0, p1, p2, p3, p4, p5⟩ := (hjj j hj').ex
            have HC2 : Bx (Ct (moreN mm 100) (sumF tS u.types + sumF pS (u.progs.take j) + 100 + sumF iS (u.progs[j].code.take 0))) := ⟨by
              have := HC.out.one (k := 100)
              simpa [sumF] using this⟩
            have hsu : sumF pS (u.progs.take (j + 1)) = sumF pS (u.progs.take j) + (100 + sumF iS u.progs[j].code) := sumF_succ pS u.progs j hj'
            have HSU : Bx _ := ⟨hsu⟩
            have P5 : Bx _ := ⟨p5⟩
            have hcm := p5.max
            have hcc := p5.cap
            unfold maxLen at hcm
            generalize u.progs[j].code = code at *
            obtain ⟨cn, hcn⟩ : ∃ n, code.length = n := ⟨_, rfl⟩
            rw [hcn] at p4 hcm hcc
            have HCN : Bx _ := ⟨hcn⟩
            have g0 : (mm : Int) ≤ 2147483647 := by omega
            have H1 := HMo.out mm 100 (by omega) (by omega)
            have u1 : moreN mm 100 ≤ 2147483648 := moreN_le
            clear hjj p0 p1 p2 p3 p5 HC hsu hcn
            generalize moreN mm 100 = m1 at *
            go_wp2_with (first
              | (go_at_call 35; refine H1.mono ?_; clear H1; rintro e w1 ⟨rfl, rfl⟩))
            go_loopw [6, 3] (fun x y wr => ∃ k n : Nat, k ≤ cn ∧ x = .int .i64 k ∧ y = .int .i64 n ∧ X = wr ∧ Bx (Ct n (sumF tS u.types + sumF pS (u.progs.take j) + 100 + sumF iS (code.take k)))) (fun x _ _ => cn - (intOf x).toNat)
            case atStart => exact ⟨0, m1, Nat.zero_le _, rfl, rfl, rfl, HC2⟩
            case round =>
              clear HC2
              obtain ⟨k, n, hk, rfl, rfl, rfl, HC⟩ := hrel
              by_cases hlk : k < cn
              · by_cases hnb : n ≤ 2147483647
                · have hk' : k < code.length := by have := HCN.out; omega
                  obtain ⟨b2, o2, rfl, hbl2, hkk⟩ := P5.out.at_ (by omega)
                  obtain ⟨la, lc, q0, q1, q2, q3, q4⟩ := (hkk k hk').ex
                  have hkm := q4.max
                  unfold maxLen at hkm
                  have HC2 : Bx (Ct (moreN (moreN n 60) (manyN code[k].list.length)) (sumF tS u.types + sumF pS (u.progs.take j) + 100 + sumF iS (code.take (k + 1)))) := ⟨by
                    rw [sumF_succ iS code k hk', ← Nat.add_assoc]
                    exact HC.out.add moreN_le⟩
                  generalize code[k].list.length = kl at *
                  have g2 : (n : Int) ≤ 2147483647 := by omega
                  have h2a : (k : Int) < (cn : Int) := by omega
                  have H1 := HMo.out n 60 (by omega) (by omega)
                  have H2 := HMa.out kl (by omega)
                  have H3 := HMo.out (moreN n 60) (manyN kl) moreN_le manyN_le
                  clear hkk q0 q1 q2 q4 HC
                  generalize moreN (moreN n 60) (manyN kl) = n2 at *
                  generalize moreN n 60 = n1 at *
                  generalize manyN kl = mk at *
                  go_wp2_with (first
                    | (go_at_call 35; refine H1.mono ?_; clear H1; rintro e w1 ⟨rfl, rfl⟩)
                    | (go_at_call 36; refine H2.mono ?_; clear H2; rintro e w1 ⟨rfl, rfl⟩)
                    | (go_at_call 35; refine H3.mono ?_; clear H3; rintro e w1 ⟨rfl, rfl⟩))
                  go_roundw
                  case rel => exact ⟨k + 1, n2, by omega, by go_num, rfl, by first | rfl | trivial, HC2⟩
                  case measure => simp [intOf]; omega
                · have g2 : ¬ (n : Int) ≤ 2147483647 := by omega
                  have h2a : (k : Int) < (cn : Int) := by omega
                  have HC2 : Bx (Ct n (sumF tS u.types + sumF pS (u.progs.take (j + 1)))) := ⟨HC.out.1, fun h => absurd h hnb⟩
                  clear HC
                  go_wp2
                  go_roundw
                  case rel => exact ⟨j + 1, n, by omega, by go_num, rfl, by first | rfl | trivial, HC2⟩
                  case measure => simp [intOf]; omega
              · have h2a : ¬ (k : Int) < (cn : Int) := by omega
                have HC2 : Bx (Ct n (sumF tS u.types + sumF pS (u.progs.take (j + 1)))) := ⟨by
                  have := HC.out
                  rw [List.take_of_length_le (l := code) (by have := HCN.out; omega)] at this
                  rw [HSU.out, ← Nat.add_assoc, ← Nat.add_assoc]
                  exact this⟩
                clear HC
                go_wp2
                go_roundw
                case rel => exact ⟨j + 1, n, by omega, by go_num, rfl, by first | rfl | trivial, HC2⟩
                case measure => simp [intOf]; omega
          · have g0 : ¬ (mm : Int) ≤ 2147483647 := by omega
            have h2a : (j : Int) < (np : Int) := by omega
            have g3 : (2147483647 : Int) < (mm : Int) := by omega
            go_wp2
            exact HQ.out _ _ true rfl (fun h => by cases h) BX.out
        · have h2a : ¬ (j : Int) < (np : Int) := by omega
          have HC1 : Bx (mm ≤ 2147483647 → unS u ≤ 2147483647) := ⟨fun h => by
            have := HC.out
            rw [List.take_of_length_le (by omega)] at this
            have e := this.2 h
            unfold unS
            omega⟩
          clear HC
          go_wp2
          exact HQ.out _ _ (decide ((2147483647 : Int) < (mm : Int))) rfl (fun h => HC1.out (by simp at h; omega)) BX.out
end Go.Proofs.YtijdcplffmdijaaDoor
