import Derived.Test.YtpgobebibjeglaaDoorCTPrA
import Derived.Test.YtpgobebibjeglaaDoorCTTx
import Derived.Test.YtpgobebibjeglaaDoorCCovQ
import Derived.Test.YtpgobebibjeglaaDoorCTBey
import Derived.PlainAid
namespace Go.Proofs.YtpgobebibjeglaaDoor
open Go.RowKit
set_option linter.unusedVariables false
set_option linter.unusedSimpArgs false

theorem beyond_any (w : World) (B : Nat) (a : Option Addr) (cap : Nat) (l : List Nd) (hn : IsNodes w B a cap l) :
    Calls Tryd.prog 5 #[.slice a l.length cap] w fun e w' => e = .returned (.bool (decide (2147483647 < bulkL l))) ∧ w = w' := by
  by_cases h0 : 0 < l.length
  · obtain ⟨nb, no, rfl, h⟩ := hn.at_ h0
    exact beyond_some w B nb no cap l h
  · have hx : l = [] := List.eq_nil_of_length_eq_zero (by omega)
    subst hx
    exact beyond_none w a cap
theorem checkGo_le (l : List Nd) : ∀ (m : Nat) (fs : List Nat), fs.length + m = l.length → (checkGo l m fs).1 ≤ l.length
  | 0, fs, _ => by
    rw [checkGo]
    unfold rootI
    split <;> simp
  | m + 1, fs, h => by
    rw [checkGo]
    split
    · exact checkGo_le l m _ (by simp; omega)
    · simp only
      omega
theorem check_le (l : List Nd) : (checkAll l).1 ≤ l.length := checkGo_le l l.length [] (by simp)

theorem len_cost : ∀ ts : List (List UInt8), ts.length ≤ cost ts
  | [] => by simp
  | t :: r => by
    have := len_cost r
    rw [cost_cons, List.length_cons]
    omega
theorem bt_at {s : ByteArray} {xs : List UInt8} (hs : s.data.toList = xs) {k : Nat} {c : UInt8} (h : xs[k]? = some c) : k < s.size ∧ PlainAid.bt s k = (c.toNat : Int) := by
  have hk : k < s.size := by
    rw [← bl s, hs]
    exact (List.getElem?_eq_some_iff.1 h).1
  refine ⟨hk, ?_⟩
  rw [← PlainAid.get_bt s k hk]
  rw [← hs] at h
  have e : s[k]'hk = c := by
    have h2 := (List.getElem?_eq_some_iff.1 h).2
    rw [← h2]
    rfl
  rw [e]
theorem toks_T {w : World} {B : Nat} {v : Value} {T : List (List UInt8)} (h : w.ownsRow B 39 4 v T.length (toksC (toksAt 0 T))) (h0 : 0 < T.length) : ∃ g cap, v = .slice (some ⟨g, 0, none⟩) T.length cap ∧ B ≤ g ∧ T.length ≤ cap ∧ Toks w g (toksAt 0 T) := by
  have := toks_of_owns (l := toksAt 0 T) (by rw [toksAt_len]; exact h) (by rw [toksAt_len]; exact h0)
  rw [toksAt_len] at this
  exact this
/-- what the law asks of one token -/
theorem tok_round {T : List (List UInt8)} {s : ByteArray} {wr : World} {g j P : Nat} (hall : AllT T) (hsl : s.data.toList = layT [] T) (hsz : s.size = (layT [] T).length) (hlen : (layT [] T).length + 1 = cost T) (hj : j < T.length) (hP : P = cost (T.take j)) (hTk : Toks wr g (toksAt 0 T)) :
    ∃ n : Nat, 0 < n ∧ P + n ≤ s.size ∧ wr.cell? ⟨g, j * 4 + 1, none⟩ = some (.int .i64 P) ∧ wr.cell? ⟨g, j * 4 + 2, none⟩ = some (.int .i64 n) ∧ (∀ q, q < n → PlainAid.bt s (P + q) ≠ 32) ∧ (P + n = s.size ∨ PlainAid.bt s (P + n) = 32) ∧ P + n + 1 = cost (T.take (j + 1)) := by
  have h1 := cost_take hj
  have h2 := cost_take_le T (j + 1)
  have h3 := toksAt_at T 0 j hj
  have hjl : j < (toksAt 0 T).length := by rw [toksAt_len]; exact hj
  obtain ⟨_, h5, h6, _⟩ := hTk.at_ j hjl
  have h4 : (toksAt 0 T)[j] = tokAt (0 + cost (T.take j)) T[j] := (List.getElem?_eq_some_iff.1 h3).2
  rw [h4] at h5 h6
  refine ⟨T[j].length, (hall _ (List.getElem_mem hj)).pos, by omega, ?_, ?_, fun q hq => ?_, ?_, by omega⟩
  · rw [h5, hP]
    simp [tokAt]
  · rw [h6]
    simp [tokAt]
  · obtain ⟨c, hc, hne⟩ := lay_in hall hj hq
    rw [hP, (bt_at hsl hc).2]
    intro e
    exact hne (UInt8.toNat_inj.1 (by show c.toNat = 32; omega))
  · rcases lay_behind hall hj with h | h
    · left
      omega
    · right
      rw [hP, (bt_at hsl h).2]
      rfl

set_option maxRecDepth 100000 in
set_option maxHeartbeats 2000000 in
theorem scans_walk (w : World) (a : Option Addr) (cap : Nat) (l : List Nd) (hn : IsNodes w w.heap.size a cap l) (hL : LaidP w) (hmax : l.length ≤ maxLen) :
    Calls Tryd.prog 4 #[.slice a l.length cap] w fun e w' => e = .returned (.bool true) ∧ Below w.heap.size w w' := by
  have HB : Bx _ := ⟨beyond_any w _ a cap l hn⟩
  have hbl := bulk_len l
  by_cases hB : 2147483647 < bulkL l
  · rw [decide_eq_true hB] at HB
    go_enter Tryd.func4, Tryd.ntmps4
    go_wp2_with (first | (go_at_call 5; refine Calls.mono HB.out ?_; rintro e w' ⟨rfl, rfl⟩))
    go_ret
    exact ⟨rfl, Below.refl _ _⟩
  rw [decide_eq_false hB] at HB
  have hl31 : l.length ≤ 2147483647 := by omega
  have HS : Bx _ := ⟨shown_any w hL⟩
  have HP : Bx (∀ W, Below w.heap.size w W → Calls Tryd.prog 7 #[.slice a l.length cap] W fun e w' => e = .returned (.tuple #[.string ⟨(printT l).toArray⟩, .int .i64 ((checkAll l).2 : Nat)]) ∧ Below W.heap.size W w') := ⟨fun W hb => Print_any W _ a cap l (hn.below hb) (hL.below hb) hl31⟩
  have HC : Bx (∀ W, Below w.heap.size w W → Calls Tryd.prog 9 #[.slice a l.length cap] W fun e w' => e = .returned (.tuple #[.int .i64 ((checkAll l).1 : Nat), .int .i64 ((checkAll l).2 : Nat)]) ∧ Below W.heap.size W w') := ⟨fun W hb => Check_any W _ a cap l (hn.below hb) (hL.below hb).laid hl31⟩
  have hle := check_le l
  by_cases hok : (checkAll l).2 = 0
  · obtain ⟨nb, no, rfl, hnn⟩ := hn.at_ (ok_all hok).2.1
    have h0 := (ok_all hok).2.1
    have hall := toks_all hok (fun j hj => (hnn.wf j hj).num) (l.length - 1) (by omega)
    have hcost := cost_text hok (fun j hj => (hnn.wf j hj).num) (l.length - 1) (by omega)
    have hp : printT l = layT [] (textG l (l.length - 1)) := by unfold printT; rw [if_pos hok]
    rw [hp, hok] at HP
    rw [hok] at HC
    have hlay := layT_le (textG l (l.length - 1)) []
    generalize textG l (l.length - 1) = T at *
    obtain ⟨s, hs⟩ : ∃ s : ByteArray, s = ⟨(layT [] T).toArray⟩ := ⟨_, rfl⟩
    have hsl : s.data.toList = layT [] T := by rw [hs]
    have hsz : s.size = (layT [] T).length := by rw [← bl s, hsl]
    rw [← hs] at HP
    have hs47 : s.size ≤ 140737488355328 := by rw [hsz]; simp at hlay; omega
    generalize (checkAll l).1 = c1 at *
    by_cases h65 : 65536 < s.size
    · generalize l.length = L at *
      clear hn hL hok hp hbl hB hnn hall hcost hlay hsl hs hsz
      go_enter Tryd.func4, Tryd.ntmps4
      go_wp2_with (first
        | (go_at_call 5; refine Calls.mono HB.out ?_; rintro e w' ⟨rfl, rfl⟩)
        | (go_at_call 6; refine Calls.mono HS.out ?_; rintro e w1 ⟨rfl, b1⟩)
        | (go_at_call 7; refine Calls.mono (HP.out _ b1) ?_; rintro e w2 ⟨rfl, b2⟩; have b3 := b1.trans (b2.mono b1.size))
        | (go_at_call 9; refine Calls.mono (HC.out _ b3) ?_; rintro e w3 ⟨rfl, b4⟩; have b5 := b3.trans (b4.mono b3.size)))
      go_ret
      exact ⟨rfl, b5⟩
    · have kc := conv_bytes s
      have HSc : Bx (∀ W, Below w.heap.size w W → Calls Tryd.prog 10 #[.slice (some ⟨W.heap.size, 0, none⟩) s.size (grownCap W s.size 0 5)] (Lib.bytesWorld W 5 s) fun e w' => ∃ v, e = .returned (.tuple #[v, .agg #[.int .i64 0, .int .i64 0]]) ∧ w'.ownsRow (Lib.bytesWorld W 5 s).heap.size 39 4 v (toksAt 0 T).length (toksC (toksAt 0 T)) ∧ Below W.heap.size W w') := ⟨fun W hb => by
        have hb2 : Below W.heap.size W (Lib.bytesWorld W 5 s) := below_bytes W s
        have := Scan_any (some ⟨W.heap.size, 0, none⟩) (grownCap W s.size 0 5) s.data.toList (Lib.bytesWorld W 5 s) ⟨fun _ => ⟨_, _, rfl, by rw [Lib.bytesWorld_size]; omega, src_bytes W s⟩, by rw [bl]; exact grownCap_ge W s.size 0 5, by rw [bl]; unfold maxLen; omega⟩ ((hL.below hb).below hb2).laid
        rw [bl s] at this
        rw [hsl, scan_lay hall (by omega)] at this
        refine this.mono ?_
        rintro e w' ⟨v, he, ho, hbl⟩
        exact ⟨v, he, ho, hb2.trans (hbl.mono (by rw [Lib.bytesWorld_size]; omega))⟩⟩
      by_cases hT : T = []
      · subst hT
        have hs0 : s = ⟨#[]⟩ := by rw [hs]; rfl
        subst hs0
        have HSc2 : Bx (∀ W, Below w.heap.size w W → Calls Tryd.prog 10 #[.slice (some ⟨W.heap.size, 0, none⟩) 0 (grownCap W 0 0 5)] (Lib.bytesWorld W 5 ⟨#[]⟩) fun e w' => ∃ a c, e = .returned (.tuple #[.slice a 0 c, .agg #[.int .i64 0, .int .i64 0]]) ∧ Below W.heap.size W w') := ⟨fun W hb => (HSc.out W hb).mono (by
          rintro e w' ⟨v, rfl, ho, hb2⟩
          obtain ⟨a, c, rfl⟩ := owns_none ho
          exact ⟨a, c, rfl, hb2⟩)⟩
        have kc2 : ∀ W : World, (convert 9 37 (.string ⟨#[]⟩)).run Tryd.prog W = .ok (.slice (some ⟨W.heap.size, 0, none⟩) 0 (grownCap W 0 0 5)) (Lib.bytesWorld W 5 ⟨#[]⟩) := kc
        clear hn hL hok hp hbl hB hnn hall hcost hlay hs hsl hsz HSc kc h65 hs47
        generalize l.length = L at *
        go_enter Tryd.func4, Tryd.ntmps4
        go_wp2_with (first
          | (go_at_call 5; refine Calls.mono HB.out ?_; rintro e w' ⟨rfl, rfl⟩)
          | (go_at_call 6; refine Calls.mono HS.out ?_; rintro e w1 ⟨rfl, b1⟩)
          | (go_at_call 7; refine Calls.mono (HP.out _ b1) ?_; rintro e w2 ⟨rfl, b2⟩; have b3 := b1.trans (b2.mono b1.size))
          | (go_at_call 9; refine Calls.mono (HC.out _ b3) ?_; rintro e w3 ⟨rfl, b4⟩; have b5 := b3.trans (b4.mono b3.size))
          | (go_at_call 10; refine Calls.mono (HSc2.out _ b5) ?_; rintro e w4 ⟨a4, c4, rfl, b6⟩; have b7 := b5.trans (b6.mono b5.size)))
        have HB7 : Bx (Below w.heap.size w w4) := ⟨b7⟩
        clear HB HS HP HC HSc2 kc2 b1 b2 b3 b4 b5 b6 b7
        go_loopw [9, 10] (fun x y wr => x = .int .i64 0 ∧ y = .int .i64 0 ∧ Bx (Below w.heap.size w wr)) (fun _ _ _ => 0)
        case atStart => exact ⟨rfl, rfl, ⟨HB7.out.alloc HB7.out.size _⟩⟩
        case round =>
          obtain ⟨rfl, rfl, HR⟩ := hrel
          go_wp2
          go_ret
          exact ⟨rfl, HR.out⟩
      · have HT : Bx (AllT T ∧ s.data.toList = layT [] T ∧ s.size = (layT [] T).length ∧ (layT [] T).length + 1 = cost T) := ⟨hall, hsl, hsz, lay_len hall hT⟩
        have hT0 : 0 < T.length := by
          cases T with
          | nil => exact absurd rfl hT
          | cons _ _ => simp
        rw [toksAt_len] at HSc
        clear hn hL hok hp hbl hB hnn hall hcost hlay hs hsl hsz hT
        generalize l.length = L at *
        go_enter Tryd.func4, Tryd.ntmps4
        go_wp2_with (first
          | (go_at_call 5; refine Calls.mono HB.out ?_; rintro e w' ⟨rfl, rfl⟩)
          | (go_at_call 6; refine Calls.mono HS.out ?_; rintro e w1 ⟨rfl, b1⟩)
          | (go_at_call 7; refine Calls.mono (HP.out _ b1) ?_; rintro e w2 ⟨rfl, b2⟩; have b3 := b1.trans (b2.mono b1.size))
          | (go_at_call 9; refine Calls.mono (HC.out _ b3) ?_; rintro e w3 ⟨rfl, b4⟩; have b5 := b3.trans (b4.mono b3.size))
          | (go_at_call 10; refine Calls.mono (HSc.out _ b5) ?_; rintro e w4 ⟨v, rfl, hown, b6⟩; have b7 := b5.trans (b6.mono b5.size); obtain ⟨g, cp, rfl, hgB, hcp, hTk⟩ := toks_T hown hT0))
        have HB7 : Bx (Below w.heap.size w w4) := ⟨b7⟩
        have HTk : Bx _ := ⟨hTk⟩
        have hTlen : T.length ≤ 65537 := by
          have h1 := len_cost T
          have h2 := HT.out.2.2
          omega
        clear HB HS HP HC HSc kc b1 b2 b3 b4 b5 b6 b7 hown hTk hgB
        go_loopw [9, 10] (fun x y wr => ∃ j : Nat, j ≤ T.length ∧ ∃ P : Nat, x = .int .i64 P ∧ y = .int .i64 j ∧ Bx (P = cost (T.take j) ∧ P ≤ s.size + 1 ∧ Toks wr g (toksAt 0 T) ∧ Below w.heap.size w wr)) (fun _ y _ => T.length - (intOf y).toNat)
        case atStart => exact ⟨0, Nat.zero_le _, 0, rfl, rfl, ⟨by simp, by omega, HTk.out.later (below1 _ _), HB7.out.alloc HB7.out.size _⟩⟩
        case round =>
          obtain ⟨j, hj, P, rfl, rfl, HR⟩ := hrel
          by_cases hlt : j < T.length
          · have hP := HR.out.2.1
            obtain ⟨n, hn0, hnP, hc1, hc2, hbt, hend, hnx⟩ := tok_round HT.out.1 HT.out.2.1 HT.out.2.2.1 HT.out.2.2.2 hlt HR.out.1 HR.out.2.2.1
            have HBT : Bx (∀ q, q < n → PlainAid.bt s (P + q) ≠ 32) := ⟨hbt⟩
            have HEN : Bx (P + n = s.size ∨ PlainAid.bt s (P + n) = 32) := ⟨hend⟩
            have HNX : Bx (P + n + 1 = cost (T.take (j + 1))) := ⟨hnx⟩
            clear hbt hend hnx
            go_wp2
            go_loopw [11] (fun x wr2 => ∃ q : Nat, q ≤ n ∧ x = .int .i64 ((P + q : Nat) : Int) ∧ Bx (Toks wr2 g (toksAt 0 T) ∧ Below w.heap.size w wr2 ∧ wr2.cell? ⟨g, j * 4 + 1, none⟩ = some (.int .i64 P) ∧ wr2.cell? ⟨g, j * 4 + 2, none⟩ = some (.int .i64 n))) (fun x _ => s.size - (intOf x).toNat)
            case atStart => exact ⟨0, Nat.zero_le _, rfl, ⟨HR.out.2.2.1, HR.out.2.2.2, hc1, hc2⟩⟩
            case round =>
              obtain ⟨q, hq, rfl, HQ⟩ := hrel
              by_cases hqn : q < n
              · have hbq := HBT.out q hqn
                have hgb := PlainAid.get_bt s (P + q) (by omega)
                go_wp2
                go_roundw
                case rel => exact ⟨q + 1, by omega, by go_num, HQ⟩
                case measure => simp [intOf]; omega
              · have hqe : q = n := by omega
                subst hqe
                have hs1 : P + q < s.size → PlainAid.bt s (P + q) = 32 := fun h => by
                  rcases HEN.out with e | e
                  · omega
                  · exact e
                obtain ⟨k1, k2, k3, k4⟩ := HQ.out
                have K1 : Bx _ := ⟨k1⟩
                have K2 : Bx _ := ⟨k2⟩
                have HNX2 : Bx (P + q + 1 = cost (T.take (j + 1)) ∧ P + q ≤ s.size) := ⟨HNX.out, hnP⟩
                have d1 : ((q : Int) != ((P + q : Nat) : Int) - (P : Int)) = false := by
                  rw [bne_eq_false_iff_eq]
                  omega
                have d2 : (((P + q : Nat) : Int) == (P : Int)) = false := by rw [beq_eq_false_iff_ne]; omega
                have d3 : ((P : Int) != (P : Int)) = false := by simp
                clear k1 k2 HQ HNX HEN HBT hc1 hc2 HR HTk HB7 hcp
                generalize P + q = E at *
                by_cases hse : E < s.size
                · have hbq := hs1 hse
                  have hgb := PlainAid.get_bt s E hse
                  have d4 : (PlainAid.bt s E != 32) = false := by rw [hbq]; rfl
                  have d5 : decide ((E : Int) < (s.size : Int)) = true := by simpa using hse
                  clear hs1 hbq
                  go_wp2
                  go_roundw
                  case rel => exact ⟨j + 1, by omega, E + 1, by go_num, by go_num, ⟨HNX2.out.1, by have := HNX2.out.2; omega, K1.out, K2.out⟩⟩
                  case measure => simp [intOf]; omega
                · have d5 : decide ((E : Int) < (s.size : Int)) = false := by simpa using hse
                  clear hs1
                  go_wp2
                  go_roundw
                  case rel => exact ⟨j + 1, by omega, E + 1, by go_num, by go_num, ⟨HNX2.out.1, by have := HNX2.out.2; omega, K1.out, K2.out⟩⟩
                  case measure => simp [intOf]; omega
          · have hPe : ((P : Int) == (s.size : Int) + 1) = true := by
              have h1 := HR.out.1
              have h2 := HT.out.2.2
              rw [List.take_of_length_le (by omega)] at h1
              rw [beq_iff_eq]
              omega
            have HRB : Bx _ := ⟨HR.out.2.2.2⟩
            clear HR
            go_wp2
            all_goals
              go_ret
              exact ⟨rfl, HRB.out⟩
  · have hp : printT l = [] := by unfold printT; rw [if_neg hok]
    rw [hp] at HP
    have hne : ((((checkAll l).2 : Nat) : Int) != 0) = true := by simp; omega
    generalize (checkAll l).1 = c1 at *
    generalize (checkAll l).2 = c2 at *
    generalize l.length = L at *
    clear hn hL hok hp hbl hB
    go_enter Tryd.func4, Tryd.ntmps4
    go_wp2_with (first
      | (go_at_call 5; refine Calls.mono HB.out ?_; rintro e w' ⟨rfl, rfl⟩)
      | (go_at_call 6; refine Calls.mono HS.out ?_; rintro e w1 ⟨rfl, b1⟩)
      | (go_at_call 7; refine Calls.mono (HP.out _ b1) ?_; rintro e w2 ⟨rfl, b2⟩; have b3 := b1.trans (b2.mono b1.size))
      | (go_at_call 9; refine Calls.mono (HC.out _ b3) ?_; rintro e w3 ⟨rfl, b4⟩; have b5 := b3.trans (b4.mono b3.size)))
    go_ret
    exact ⟨rfl, b5⟩
end Go.Proofs.YtpgobebibjeglaaDoor
