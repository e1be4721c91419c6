import Derived.Test.YtijdcplffmdijaaDoorCDS
namespace Go.Proofs.YtijdcplffmdijaaDoor
open Go.RowKit
set_option linter.unusedVariables false
set_option linter.unusedSimpArgs false

/-- the first word off -/
theorem Cut_last (p : List UInt8) (w : World) (h : (32 : UInt8) ∉ p) : Calls Tryd.prog 49 #[strV (joinP [p]), strV [32]] w fun e w' => e = .returned (.tuple #[strV p, strV (joinP []), .bool false]) ∧ Below w.heap.size w w' := by
  have e : joinP [p] = p := by simp [joinP]
  rw [e]
  exact Cut_any p p _ false 32 w (cut0_miss p 32 w h)
theorem Cut_more (p q : List UInt8) (r : List (List UInt8)) (w : World) (h : (32 : UInt8) ∉ p) (hm : (joinP (p :: q :: r)).length ≤ 9223372036854775806) : Calls Tryd.prog 49 #[strV (joinP (p :: q :: r)), strV [32]] w fun e w' => e = .returned (.tuple #[strV p, strV (joinP (q :: r)), .bool true]) ∧ Below w.heap.size w w' := by
  rw [joinP_two] at hm ⊢
  exact Cut_any _ p _ true 32 w (cut0_hit p (joinP (q :: r)) 32 w h hm)
theorem Cut_join (p : List UInt8) (P : List (List UInt8)) (w : World) (h : (32 : UInt8) ∉ p) (hm : (joinP (p :: P)).length ≤ 9223372036854775806) : Calls Tryd.prog 49 #[strV (joinP (p :: P)), strV [32]] w fun e w' => e = .returned (.tuple #[strV p, strV (joinP P), .bool (!P.isEmpty)]) ∧ Below w.heap.size w w' := by
  cases P with
  | nil => exact Cut_last p w h
  | cons q r => exact Cut_more p q r w h hm
theorem join_le (p : List UInt8) (P : List (List UInt8)) : (joinP P).length ≤ (joinP (p :: P)).length ∧ p.length ≤ (joinP (p :: P)).length := by
  cases P with
  | nil => simp [joinP]
  | cons q r => rw [joinP_two]; simp; omega
theorem join_len (P : List (List UInt8)) : P.length ≤ (joinP P).length + 1 := by
  induction P with
  | nil => simp
  | cons p r ih =>
    cases r with
    | nil => simp
    | cons q r => rw [joinP_two]; simp only [List.length_cons, List.length_append] at ih ⊢; omega
theorem NRo.push {w w8 : World} {B : Nat} {v : Value} {ks : List Int} {z : Int} {o : Obj} {w0 : World} (h : NRo w B v ks) (hb : Below B w0 w) (hB : B ≤ w.heap.size) {g cp N : Nat} (hN : ks.length = N) (hg : (w.alloc o).grownBy w8 v.ownBlock)
    (ho : w8.ownsRow B 3 1 (.slice (some ⟨g, 0, none⟩) (N + 1) cp) (N + 1) (ks.map (Value.int .i64) ++ [.int .i64 z])) : NRo w8 B (.slice (some ⟨g, 0, none⟩) (N + 1) cp) (ks ++ [z]) ∧ Below B w0 w8 := by
  subst hN
  refine ⟨?_, (hb.alloc hB o).grown hg (by simp; omega) fun x hx => (owns_block h hx).1⟩
  unfold NRo
  rw [List.map_append, List.length_append]
  exact ho
def strN : Value → Nat
  | .string s => s.size
  | _ => 0
def boolN : Value → Nat
  | .bool true => 1
  | _ => 0
theorem strN_str (l : List UInt8) : strN (strV l) = l.length := str_size l
theorem numOf_no {t : List UInt8} (h : ∀ n, Lib.atoiAll t ≠ .ok n) : numOf t = none := by
  unfold numOf
  split
  · rename_i n hn; exact absurd hn (h n)
  · rfl
/-- what split answers -/
def SplitA (w : World) (line : List UInt8) (e : Ending) (w' : World) : Prop :=
  match numsOf (pieces 32 line).2 with
  | none => e = .returned (.tuple #[strV [], .slice none 0 0, .bool false]) ∧ Below w.heap.size w w'
  | some l => ∃ v, e = .returned (.tuple #[strV (pieces 32 line).1, v, .bool true]) ∧ NRo w' w.heap.size v l ∧ Below w.heap.size w w'
set_option maxRecDepth 100000 in
set_option maxHeartbeats 4000000 in
theorem split_any (line : List UInt8) (w : World) (hL : LW w) (hm : line.length ≤ 8796093022208) :
    Calls Tryd.prog 63 #[strV line] w (SplitA w line) := by
  obtain ⟨hp1, hp2⟩ := pieces_no 32 line
  have hj : joinP ((pieces 32 line).1 :: (pieces 32 line).2) = line := pieces_join 32 line
  have HC0 := Cut_join (pieces 32 line).1 (pieces 32 line).2 w hp1 (by rw [hj]; omega)
  rw [hj] at HC0
  have hjl := (join_le (pieces 32 line).1 (pieces 32 line).2).1
  rw [hj] at hjl
  have hpl := join_len (pieces 32 line).2
  obtain ⟨Q, hQ⟩ : ∃ Q, Q = SplitA w line := ⟨_, rfl⟩
  have HQ0 : Bx (∀ e w', numsOf (pieces 32 line).2 = none → e = .returned (.tuple #[strV [], .slice none 0 0, .bool false]) → Below w.heap.size w w' → Q e w') := ⟨fun e w' h h1 h2 => by rw [hQ]; unfold SplitA; rw [h]; exact ⟨h1, h2⟩⟩
  have HQ1 : Bx (∀ e w' v l, numsOf (pieces 32 line).2 = some l → e = .returned (.tuple #[strV (pieces 32 line).1, v, .bool true]) → NRo w' w.heap.size v l → Below w.heap.size w w' → Q e w') := ⟨fun e w' v l h h1 h2 h3 => by rw [hQ]; unfold SplitA; rw [h]; exact ⟨v, h1, h2, h3⟩⟩
  rw [← hQ]
  clear hQ hj hp1
  generalize (pieces 32 line).1 = wd at *
  generalize (pieces 32 line).2 = PS at *
  have HL : Bx _ := ⟨hL⟩
  have HP : Bx _ := ⟨hp2⟩
  obtain ⟨j0, ji, jz0, jz1, jz2⟩ := info_parts infoInt
  clear hL hp2
  go_enter Tryd.func63, Tryd.ntmps63
  go_wp2_with (go_at_call 49; refine HC0.mono ?_; rintro e w1 ⟨rfl, hb1⟩; have HB1 : Bx _ := ⟨hb1⟩; clear hb1)
  go_loopw [8, 7, 5] (fun m r v wr => ∃ (P : List (List UInt8)) (ks : List Int) (vv : Value), m = .bool (!P.isEmpty) ∧ r = strV (joinP P) ∧ vv = v ∧ ks.length + P.length ≤ PS.length ∧ (joinP P).length ≤ 8796093022208 ∧ Bx (NRo wr w.heap.size vv ks ∧ Below w.heap.size w wr ∧ numsOf PS = (numsOf P).map (ks ++ ·) ∧ ∀ p ∈ P, (32 : UInt8) ∉ p) ∧ P.length ≤ PS.length) (fun m r _ _ => strN r + boolN m)
  case atStart => exact ⟨PS, [], _, rfl, rfl, rfl, by simp, by omega, ⟨World.ownsRow_nil _ _ _ _, HB1.out, by cases numsOf PS <;> simp, HP.out⟩, Nat.le_refl _⟩
  case round =>
    obtain ⟨P, ks, vv, rfl, rfl, rfl, hkl, hjr, HS, hPl⟩ := hrel
    clear HB1
    cases P with
    | nil =>
      have hn : numsOf PS = some ks := by rw [HS.out.2.2.1]; simp [numsOf]
      have HE := HQ1.out
      go_wp2
      go_ret3
      exact HE _ _ _ ks hn rfl HS.out.1 HS.out.2.1
    | cons p P =>
      have hpn : (32 : UInt8) ∉ p := HS.out.2.2.2 p List.mem_cons_self
      have hLr := HL.out.below HS.out.2.1
      have hjp := join_le p P
      have hsz := HS.out.2.1.size
      have HC := Cut_join p P wr hpn (by omega)
      have hN : numsOf PS = (numsOf (p :: P)).map (ks ++ ·) := HS.out.2.2.1
      simp only [List.isEmpty_cons, Bool.not_false]
      by_cases hok : ∃ n, Lib.atoiAll p = .ok n
      · obtain ⟨n, hn⟩ := hok
        have hn64 : I64 n := by
          unfold Lib.atoiAll at hn
          split at hn
          · cases hn
          · simp only [] at hn
            split at hn
            · cases hn
            · cases hn
            · rename_i u hu
              split at hn
              · cases hn
              · split at hn
                · cases hn
                · injection hn with hn
                  subst hn
                  unfold I64
                  split <;> omega
        have HA : Bx (∀ W, Below wr.heap.size wr W → Calls Tryd.prog 72 #[strV p] W fun e w' => e = .returned (.tuple #[.int .i64 n, .nilIface]) ∧ Below wr.heap.size wr w') := ⟨fun W hb => (Atoi_yes p W n (by omega) hn).mono fun e w' h => ⟨h.1, hb.trans (h.2.mono hb.size)⟩⟩
        have HI : Bx (∀ W, Below wr.heap.size wr W → Calls Tryd.prog 73 #[.int .i64 n] W fun e w' => e = .returned (strV (Lib.itoa n)) ∧ Below wr.heap.size wr w') := ⟨fun W hb => (Itoa_any n W (hLr.below hb) hn64).mono fun e w' h => ⟨h.1, hb.trans (h.2.mono hb.size)⟩⟩
        by_cases hit : Lib.itoa n = p
        · have hno : numOf p = some n := by unfold numOf; rw [hn]; simp [hit]
          have HNN : Bx (numsOf PS = (numsOf P).map ((ks ++ [n]) ++ ·)) := ⟨by
            rw [hN, numsOf, hno]
            cases numsOf P <;> simp⟩
          obtain ⟨N, hKN⟩ : ∃ N, ks.length = N := ⟨_, rfl⟩
          have HOW : Bx (∀ W, Below wr.heap.size wr W → (W.alloc (.cells #[.int .i64 n] 3)).ownsRow w.heap.size 3 1 vv N (ks.map (Value.int .i64)) ∧ w.heap.size ≤ W.heap.size ∧ ∀ g2 cp2 w8, (W.alloc (.cells #[.int .i64 n] 3)).grownBy w8 vv.ownBlock → w8.ownsRow w.heap.size 3 1 (.slice (some ⟨g2, 0, none⟩) (N + 1) cp2) (N + 1) (ks.map (Value.int .i64) ++ [.int .i64 n]) → NRo w8 w.heap.size (.slice (some ⟨g2, 0, none⟩) (N + 1) cp2) (ks ++ [n]) ∧ Below w.heap.size w w8) := ⟨fun W hb => by
            have h1 := HS.out.1.below hb
            have h2 := hb.size
            refine ⟨?_, by omega, fun g2 cp2 w8 hg ho => h1.push (HS.out.2.1.trans (hb.mono hsz)) (by omega) hKN hg ho⟩
            rw [← hKN]
            exact (h1.below (below1 W _)).own⟩
          have HPP : Bx (∀ q ∈ P, (32 : UInt8) ∉ q) := ⟨fun q hq => HS.out.2.2.2 q (List.mem_cons_of_mem _ hq)⟩
          have hms : strN (strV (joinP P)) + boolN (.bool (!P.isEmpty)) < strN (strV (joinP (p :: P))) + boolN (.bool true) := by
            rw [strN_str, strN_str]
            cases P with
            | nil => simp [joinP, boolN]
            | cons q r => rw [joinP_two]; simp [boolN]; omega
          have HMS : Bx _ := ⟨hms⟩
          have hNl : N ≤ 8796093022209 := by simp only [List.length_cons] at hkl; omega
          rw [hit] at HI
          clear hn hno hN hms hLr HS hit hn64
          go_wp2_with (first
            | (go_at_call 49; refine HC.mono ?_; rintro e w2 ⟨rfl, hb2⟩; have HB2 : Bx _ := ⟨hb2⟩; clear hb2)
            | (go_at_call 72; refine (HA.out _ HB2.out).mono ?_; rintro e w3 ⟨rfl, hb3⟩; have HB3 : Bx _ := ⟨hb3⟩; clear hb3)
            | (go_at_call 73; refine (HI.out _ HB3.out).mono ?_; rintro e w4 ⟨rfl, hb4⟩; obtain ⟨o1, o2, o3⟩ := HOW.out _ hb4; have O1 : Bx _ := ⟨o1⟩; have O3 : Bx _ := ⟨o3⟩; clear hb4 o1 o3)
            | (at_builtin; refine wpList_append_lies _ rfl (.tmp 38) (.tmp 40) 26 rfl w.heap.size 3 j0 (.int .i64 0) 1 8 Tryd.underlying26 ji jz0 jz1 jz2 rfl (by decide) vv N (ks.map (Value.int .i64)) rfl O1.out ⟨w4.heap.size, 0, none⟩ 1 1 [.int .i64 n] rfl rfl (int_news _ _ rfl _) (int_one _) (by decide) (by unfold maxLen; omega) (by omega) (by simp; omega) (w4.heap.size + 1) (by simp) ?_; intro gg cg w8 hown hgrow hat hlt8; have LN := O3.out gg cg w8 hgrow hown; have LNB : Bx _ := ⟨LN⟩; clear hgrow hat hown LN))
          go_roundw
          case rel => exact ⟨P, ks ++ [n], _, rfl, rfl, rfl, by simp only [List.length_append, List.length_cons, List.length_nil] at hkl ⊢; omega, by omega, ⟨LNB.out.1, LNB.out.2, HNN.out, HPP.out⟩, by simp only [List.length_cons] at hPl; omega⟩
          case measure => exact HMS.out
        · have hno : numOf p = none := by unfold numOf; rw [hn]; simp [hit]
          have hnn : numsOf PS = none := by rw [hN, numsOf, hno]; rfl
          have HE : Bx (∀ e w', e = .returned (.tuple #[strV [], .slice none 0 0, .bool false]) → Below wr.heap.size wr w' → Q e w') := ⟨fun e w' h1 h2 => HQ0.out e w' hnn h1 (HS.out.2.1.trans (h2.mono hsz))⟩
          generalize Lib.itoa n = q at *
          have hq1 : (q == p) = false := by simpa using hit
          clear hn hno hN hnn hLr HS hn64
          go_wp2_with (first
            | (go_at_call 49; refine HC.mono ?_; rintro e w2 ⟨rfl, hb2⟩; have HB2 : Bx _ := ⟨hb2⟩; clear hb2)
            | (go_at_call 72; refine (HA.out _ HB2.out).mono ?_; rintro e w3 ⟨rfl, hb3⟩; have HB3 : Bx _ := ⟨hb3⟩; clear hb3)
            | (go_at_call 73; refine (HI.out _ HB3.out).mono ?_; rintro e w4 ⟨rfl, hb4⟩; have HB4 : Bx _ := ⟨hb4⟩; clear hb4))
          go_ret3
          exact HE.out _ _ rfl HB4.out
      · have hno : numOf p = none := numOf_no fun n h => hok ⟨n, h⟩
        have hnn : numsOf PS = none := by rw [hN, numsOf, hno]; rfl
        have HE : Bx (∀ e w', e = .returned (.tuple #[strV [], .slice none 0 0, .bool false]) → Below wr.heap.size wr w' → Q e w') := ⟨fun e w' h1 h2 => HQ0.out e w' hnn h1 (HS.out.2.1.trans (h2.mono hsz))⟩
        have HA : Bx (∀ W, Below wr.heap.size wr W → Calls Tryd.prog 72 #[strV p] W fun e w' => ∃ n ty p, e = .returned (.tuple #[.int .i64 n, .iface ty p]) ∧ Below wr.heap.size wr w') := ⟨fun W hb => (Atoi_no p W (hLr.below hb) (by omega) fun n h => hok ⟨n, h⟩).mono fun e w' ⟨n, ty, p, h1, h2⟩ => ⟨n, ty, p, h1, hb.trans (h2.mono hb.size)⟩⟩
        clear hno hN hnn hLr HS hok
        go_wp2_with (first
          | (go_at_call 49; refine HC.mono ?_; rintro e w2 ⟨rfl, hb2⟩; have HB2 : Bx _ := ⟨hb2⟩; clear hb2)
          | (go_at_call 72; refine (HA.out _ HB2.out).mono ?_; rintro e w3 ⟨n, ty, pp, rfl, hb3⟩; have HB3 : Bx _ := ⟨hb3⟩; clear hb3))
        go_ret3
        exact HE.out _ _ rfl HB3.out
end Go.Proofs.YtijdcplffmdijaaDoor
