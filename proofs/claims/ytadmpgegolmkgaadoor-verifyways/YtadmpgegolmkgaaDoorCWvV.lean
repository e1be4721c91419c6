import Derived.Test.YtadmpgegolmkgaaDoorCWmE
import Derived.Test.YtadmpgegolmkgaaDoorCWdN
namespace Go.Proofs.YtadmpgegolmkgaaDoor
open Go.RowKit
set_option linter.unusedVariables false
set_option linter.unusedSimpArgs false

/-! ### a table of types is valid -/
def kfits (kd : Int) (n : Nat) (res : Bool) : Bool :=
  if kd = 1 ∨ kd = 2 then n == 0 && !res
  else if kd = 3 ∨ kd = 5 then n == 1 && !res
  else if kd = 4 then decide (2 ≤ n) && !res
  else if kd = 6 then decide (1 ≤ n) || !res
  else false
def kRow (n : Nat) (k : Int) : Bool := decide (0 ≤ k) && decide (k < n)
def kOk (n : Nat) (t : CTy) : Bool := kfits t.kind t.kids.length t.res && t.kids.all (kRow n)
def kAll (n : Nat) (ts : List CTy) : Bool := ts.all (kOk n)
def validI (ts : List CTy) : Bool := kAll ts.length ts
theorem kAll_at {n : Nat} {l : List CTy} {k : Nat} (h : k < l.length) : kAll n (l.drop k) = (kOk n l[k] && kAll n (l.drop (k + 1))) := by
  unfold kAll
  rw [List.drop_eq_getElem_cons h, List.all_cons]
theorem all_at {f : Int → Bool} {l : List Int} {k : Nat} (h : k < l.length) : (l.drop k).all f = (f l[k] && (l.drop (k + 1)).all f) := by
  rw [List.drop_eq_getElem_cons h, List.all_cons]
set_option maxRecDepth 100000 in
set_option maxHeartbeats 2000000 in
theorem kfits_any (w : World) (kd : Int) (ka : Option Addr) (n kc : Nat) (r : Bool) :
    Calls Tryd.prog 47 #[.agg #[.int .i64 kd, .slice ka n kc, .bool r]] w fun e w' => e = .returned (.bool (kfits kd n r)) ∧ Below w.heap.size w w' := by
  go_enter Tryd.func47, Tryd.ntmps47
  go_wp2
  all_goals
    go_ret
    refine ⟨ret_bool ?_, below1 _ _⟩
    unfold kfits
    simp at *
    first | (simp [*]; done) | (cases r <;> simp_all <;> omega)
theorem kRow_any (w : World) (a : Option Addr) (n cap : Nat) (k : Int) :
    Calls Tryd.prog 48 #[.slice a n cap, .int .i64 k] w fun e w' => e = .returned (.bool (kRow n k)) ∧ w = w' := by
  unfold kRow
  cases e1 : decide (0 ≤ k)
  · go_enter Tryd.func48, Tryd.ntmps48
    go_wp2
    go_ret
    exact ⟨ret_bool (by simp), rfl⟩
  · go_enter Tryd.func48, Tryd.ntmps48
    go_wp2
    go_ret
    exact ⟨ret_bool (by simp), rfl⟩
/-- a type's cells -/
theorem ty_cells {w : World} {B tc : Nat} {ta : Option Addr} {l : List CTy} (h : Row (TyAt w B) B 3 ta tc l) {k : Nat} (hk : k < l.length) : ∃ b o ka kc, ta = some ⟨b, o, none⟩ ∧ b < B ∧ IntsV w B ka kc l[k].kids ∧ Bx (∀ X, Below B w X → X.cell? ⟨b, o + k * 3, none⟩ = some (.int .i64 l[k].kind) ∧ X.cell? ⟨b, o + k * 3 + 1, none⟩ = some (.slice ka l[k].kids.length kc) ∧ X.cell? ⟨b, o + k * 3 + 2, none⟩ = some (.bool l[k].res)) := by
  obtain ⟨b, o, e, hb, hj⟩ := h.at_ (by omega)
  obtain ⟨ka, kc, h0, h1, h2, h3⟩ := (hj k hk).ex
  have hc : ∀ X, Below B w X → ∀ i, X.cell? ⟨b, i, none⟩ = w.cell? ⟨b, i, none⟩ := fun X hX i => hX.cell (p := ⟨b, i, none⟩) hb
  exact ⟨b, o, ka, kc, e, hb, h3, ⟨fun X hX => ⟨by rw [hc X hX]; exact h0, by rw [hc X hX]; exact h1, by rw [hc X hX]; exact h2⟩⟩⟩
set_option maxRecDepth 100000 in
set_option maxHeartbeats 4000000 in
/-- **Valid** -/
theorem Valid_any (w : World) (B : Nat) (hB : B ≤ w.heap.size) (ta : Option Addr) (tc : Nat) (ts : List CTy) (hr : Row (TyAt w B) B 3 ta tc ts) :
    Calls Tryd.prog 31 #[.slice ta ts.length tc] w fun e w' => e = .returned (.bool (validI ts)) ∧ Bx (Below w.heap.size w w') := by
  have hcap := hr.cap
  have hmx := hr.max
  unfold maxLen at hmx
  have HT : Bx (∀ k (hk : k < ts.length), _) := ⟨fun k hk => ty_cells hr hk⟩
  unfold validI
  generalize hRR : kAll ts.length ts = R
  have HR : Bx (kAll ts.length (ts.drop 0) = R) := ⟨by rw [List.drop_zero]; exact hRR⟩
  clear hr hRR
  go_enter Tryd.func31, Tryd.ntmps31
  go_wp2
  go_loopg [9] (ts.length + 1) (fun f v9 wr => ∃ k : Nat, f = ts.length + 1 - k ∧ k ≤ ts.length ∧ v9 = .int .i64 k ∧ Bx (kAll ts.length (ts.drop k) = R) ∧ Bx (Below w.heap.size w wr))
  case atStart => exact ⟨0, by simp, Nat.zero_le _, rfl, HR, ⟨Below.refl _ _⟩⟩
  case round =>
    obtain ⟨k, hf, hk, rfl, HW, HB⟩ := hrel
    by_cases hlt : k < ts.length
    · obtain ⟨b, o, ka, kc, rfl, hb, hks, HC⟩ := HT.out k hlt
      have hs := HB.out.size
      obtain ⟨c0, c1, c2⟩ := HC.out wr (HB.out.mono hB)
      have hbl : b < wr.heap.size := by omega
      have hkI : (k : Int) < (ts.length : Int) := by omega
      have HW2 : Bx _ := ⟨(kAll_at hlt).symm.trans HW.out⟩
      obtain ⟨W1, hW1⟩ : ∃ W1, wr.alloc (.cells #[.int .i64 ts[k].kind, .slice ka ts[k].kids.length kc, .bool ts[k].res] 49) = W1 := ⟨_, rfl⟩
      have b1 : Below wr.heap.size wr W1 := by rw [← hW1]; exact below1 wr _
      have q1 : W1.heap[wr.heap.size]? = some (.cells #[.int .i64 ts[k].kind, .slice ka ts[k].kids.length kc, .bool ts[k].res] 49 (0, 0)) := by rw [← hW1]; exact heap_newH _ _ _ rfl
      have HF : Bx (Calls Tryd.prog 47 #[.agg #[.int .i64 ts[k].kind, .slice ka ts[k].kids.length kc, .bool ts[k].res]] W1 fun e w' => e = .returned (.bool (kfits ts[k].kind ts[k].kids.length ts[k].res)) ∧ w'.cell? ⟨wr.heap.size, 1, none⟩ = some (.slice ka ts[k].kids.length kc) ∧ Bx (Below w.heap.size w w') ∧ Bx (IntsV w' B ka kc ts[k].kids)) := ⟨(kfits_any W1 _ ka _ kc _).mono fun e w' q => by
        have hb2 : Below wr.heap.size wr w' := b1.trans (q.2.mono b1.size)
        exact ⟨q.1, cell_blk ((q.2.block _ (heap_lt q1)).trans q1) rfl, ⟨HB.out.trans (hb2.mono hs)⟩, ⟨hks.below (HB.out.mono hB |>.trans (hb2.mono (by omega)))⟩⟩⟩
      have hkcp := hks.cap
      have hkmx := hks.max
      unfold maxLen at hkmx
      unfold kOk at HW2
      have HW1 : Bx _ := ⟨hW1⟩
      clear hW1
      clear HC hs HB HW HT hks b1 q1
      generalize ts[k] = t at *
      cases hfi : kfits t.kind t.kids.length t.res with
      | false =>
        rw [hfi] at HF HW2
        have hr := HW2.out
        simp only [Bool.false_and] at hr
        subst hr
        clear hfi HW2
        go_wp2_with (first
          | (go_at_call 47; rw [HW1.out]; refine HF.out.mono ?_; rintro e w2 ⟨rfl, y1, HB2, HK⟩))
        go_ret
        exact ⟨rfl, HB2⟩
      | true =>
        rw [hfi] at HF HW2
        simp only [Bool.true_and] at HW2
        clear hfi
        generalize hRK : t.kids.all (kRow ts.length) = rk at *
        have HKA : Bx ((t.kids.drop 0).all (kRow ts.length) = rk) := ⟨by rw [List.drop_zero]; exact hRK⟩
        clear hRK
        obtain ⟨wA, rfl⟩ : ∃ X, X = wr := ⟨_, rfl⟩
        go_wp2_with (first
          | (go_at_call 47; rw [HW1.out]; refine HF.out.mono ?_; rintro e w2 ⟨rfl, y1, HB2, HK⟩))
        clear y1 c0 c1 c2 HF HW1
        go_loopg [19] (t.kids.length + 1) (fun f v19 wr => ∃ i : Nat, f = t.kids.length + 1 - i ∧ i ≤ t.kids.length ∧ v19 = .int .i64 i ∧ Bx ((t.kids.drop i).all (kRow ts.length) = rk) ∧ wr = w2)
        case atStart => exact ⟨0, by simp, Nat.zero_le _, rfl, HKA, rfl⟩
        case round =>
          obtain ⟨i, hf2, hi, rfl, HA, rfl⟩ := hrel
          clear HKA
          by_cases hlt2 : i < t.kids.length
          · obtain ⟨b', o', rfl, hb', hc⟩ := HK.out.at_ (by omega)
            have d0 := hc i hlt2
            have hiI : (i : Int) < (t.kids.length : Int) := by omega
            have HA2 : Bx _ := ⟨(all_at hlt2).symm.trans HA.out⟩
            have HI : Bx _ := ⟨kRow_any wr (some ⟨b, o, none⟩) ts.length tc t.kids[i]⟩
            clear hc HA HK
            generalize t.kids[i] = y at *
            cases hy : kRow ts.length y with
            | false =>
              rw [hy] at HI HA2
              have hr := HA2.out
              simp only [Bool.false_and] at hr
              subst hr
              have hr2 := HW2.out
              simp only [Bool.false_and] at hr2
              subst hr2
              clear HA2 HW2 hy
              go_wp2_with (first
                | (go_at_call 48; refine HI.out.mono ?_; rintro e w3 ⟨rfl, rfl⟩))
              go_ret
              exact ⟨rfl, HB2⟩
            | true =>
              rw [hy] at HI HA2
              have hr := HA2.out
              simp only [Bool.true_and] at hr
              have HA3 : Bx _ := ⟨hr⟩
              clear HA2 hr hy
              go_wp2_with (first
                | (go_at_call 48; refine HI.out.mono ?_; rintro e w3 ⟨rfl, rfl⟩))
              go_roundg (t.kids.length + 1 - (i + 1))
              case measure => omega
              case rel => exact ⟨i + 1, rfl, by omega, by simp, HA3, rfl⟩
          · obtain rfl : i = t.kids.length := by omega
            have hr := HA.out
            rw [List.drop_length, List.all_nil] at hr
            subst hr
            have hr2 := HW2.out
            simp only [Bool.true_and] at hr2
            have HW3 : Bx _ := ⟨hr2⟩
            clear HA HW2 hr2
            go_wp2
            go_roundg (ts.length + 1 - (k + 1))
            case measure => omega
            case rel => exact ⟨k + 1, rfl, by omega, by simp, HW3, HB2⟩
    · obtain rfl : k = ts.length := by omega
      have hr := HW.out
      rw [List.drop_length] at hr
      subst hr
      clear HW HT
      go_wp2
      go_ret
      exact ⟨rfl, HB⟩
end Go.Proofs.YtadmpgegolmkgaaDoor
namespace Go.Proofs.YtadmpgegolmkgaaDoor
open Go.RowKit
set_option linter.unusedVariables false
set_option linter.unusedSimpArgs false

/-! ### an instruction on its own -/
def inI (n m : Int) : Bool := decide (0 ≤ n) && decide (n ≤ m)
set_option maxRecDepth 100000 in
set_option maxHeartbeats 1000000 in
theorem within_any (n m : Int) (w : World) : Calls Tryd.prog 49 #[.int .i64 n, .int .i64 m] w fun e w' => e = .returned (.bool (inI n m)) ∧ w = w' := by
  unfold inI
  by_cases h0 : 0 ≤ n
  · have hb : decide (0 ≤ n) = true := decide_eq_true h0
    rw [hb]
    go_enter Tryd.func49, Tryd.ntmps49
    go_wp2
    go_ret
    exact ⟨ret_bool (by simp), rfl⟩
  · have hb : decide (0 ≤ n) = false := decide_eq_false h0
    rw [hb]
    go_enter Tryd.func49, Tryd.ntmps49
    go_wp2
    go_ret
    exact ⟨ret_bool (by simp), rfl⟩
def binI (n : Int) : Bool := n == 21 || (n == 22 || (n == 23 || (n == 24 || (n == 25 || (n == 26 || (n == 31 || (n == 32 || (n == 41 || (n == 42 || n == 43)))))))))
set_option maxRecDepth 100000 in
set_option maxHeartbeats 4000000 in
theorem isBinary_any (n : Int) (w : World) : Calls Tryd.prog 85 #[.int .i64 n] w fun e w' => e = .returned (.bool (binI n)) ∧ w = w' := by
  unfold binI
  by_cases h1 : n = 21
  · subst h1
    go_enter Tryd.func85, Tryd.ntmps85
    go_wp2
    go_ret
    exact ⟨rfl, rfl⟩
  by_cases h2 : n = 22
  · subst h2
    go_enter Tryd.func85, Tryd.ntmps85
    go_wp2
    go_ret
    exact ⟨rfl, rfl⟩
  by_cases h3 : n = 23
  · subst h3
    go_enter Tryd.func85, Tryd.ntmps85
    go_wp2
    go_ret
    exact ⟨rfl, rfl⟩
  by_cases h4 : n = 24
  · subst h4
    go_enter Tryd.func85, Tryd.ntmps85
    go_wp2
    go_ret
    exact ⟨rfl, rfl⟩
  by_cases h5 : n = 25
  · subst h5
    go_enter Tryd.func85, Tryd.ntmps85
    go_wp2
    go_ret
    exact ⟨rfl, rfl⟩
  by_cases h6 : n = 26
  · subst h6
    go_enter Tryd.func85, Tryd.ntmps85
    go_wp2
    go_ret
    exact ⟨rfl, rfl⟩
  by_cases h7 : n = 31
  · subst h7
    go_enter Tryd.func85, Tryd.ntmps85
    go_wp2
    go_ret
    exact ⟨rfl, rfl⟩
  by_cases h8 : n = 32
  · subst h8
    go_enter Tryd.func85, Tryd.ntmps85
    go_wp2
    go_ret
    exact ⟨rfl, rfl⟩
  by_cases h9 : n = 41
  · subst h9
    go_enter Tryd.func85, Tryd.ntmps85
    go_wp2
    go_ret
    exact ⟨rfl, rfl⟩
  by_cases h10 : n = 42
  · subst h10
    go_enter Tryd.func85, Tryd.ntmps85
    go_wp2
    go_ret
    exact ⟨rfl, rfl⟩
  by_cases h11 : n = 43
  · subst h11
    go_enter Tryd.func85, Tryd.ntmps85
    go_wp2
    go_ret
    exact ⟨rfl, rfl⟩
  have b1 : (n == 21) = false := by simp [h1]
  have b2 : (n == 22) = false := by simp [h2]
  have b3 : (n == 23) = false := by simp [h3]
  have b4 : (n == 24) = false := by simp [h4]
  have b5 : (n == 25) = false := by simp [h5]
  have b6 : (n == 26) = false := by simp [h6]
  have b7 : (n == 31) = false := by simp [h7]
  have b8 : (n == 32) = false := by simp [h8]
  have b9 : (n == 41) = false := by simp [h9]
  have b10 : (n == 42) = false := by simp [h10]
  have b11 : (n == 43) = false := by simp [h11]
  rw [b1, b2, b3, b4, b5, b6, b7, b8, b9, b10, b11]
  clear h1 h2 h3 h4 h5 h6 h7 h8 h9 h10 h11
  go_enter Tryd.func85, Tryd.ntmps85
  go_wp2
  go_ret
  exact ⟨rfl, rfl⟩
def pathGo (l : List Int) : Bool := l.all fun x => decide (-1 ≤ x)
theorem pathGo_at {l : List Int} {k : Nat} (h : k < l.length) : pathGo (l.drop k) = (decide (-1 ≤ l[k]) && pathGo (l.drop (k + 1))) := by
  unfold pathGo
  rw [List.drop_eq_getElem_cons h, List.all_cons]
set_option maxRecDepth 100000 in
set_option maxHeartbeats 2000000 in
theorem isPath_any (w : World) (B : Nat) (a : Option Addr) (cp : Nat) (ks : List Int) (hk : IntsV w B a cp ks) (hlen : ks.length ≤ 281474976710656) : Calls Tryd.prog 86 #[.slice a ks.length cp] w fun e w' => e = .returned (.bool (pathGo ks && decide (0 < ks.length))) ∧ w = w' := by
  have HG : Bx (pathGo (ks.drop 0) = pathGo ks) := ⟨by rw [List.drop_zero]⟩
  have HK : Bx _ := ⟨hk⟩
  have hcp := hk.cap
  clear hk
  generalize pathGo ks = r at *
  go_enter Tryd.func86, Tryd.ntmps86
  go_wp2
  go_loopg [7] (ks.length + 1) (fun f v7 wr => ∃ k : Nat, f = ks.length + 1 - k ∧ k ≤ ks.length ∧ v7 = .int .i64 k ∧ Bx (pathGo (ks.drop k) = r) ∧ w = wr)
  case atStart => exact ⟨0, by simp, Nat.zero_le _, rfl, HG, rfl⟩
  case round =>
    obtain ⟨k, hf, hk, rfl, HR, rfl⟩ := hrel
    by_cases hlt : k < ks.length
    · obtain ⟨b, o, rfl, hb, hc⟩ := HK.out.at_ (by omega)
      have c0 := hc k hlt
      have HR2 : Bx _ := ⟨(pathGo_at hlt).symm.trans HR.out⟩
      have hkI : (k : Int) < (ks.length : Int) := by omega
      clear hc HR HK
      generalize ks[k] = y at *
      by_cases hy : -1 ≤ y
      · have hyb : decide (y < -1) = false := decide_eq_false (by omega)
        have hr := HR2.out
        rw [decide_eq_true hy, Bool.true_and] at hr
        have HR3 : Bx _ := ⟨hr⟩
        clear hr HR2
        go_wp2
        go_roundg (ks.length + 1 - (k + 1))
        case measure => omega
        case rel => exact ⟨k + 1, rfl, by omega, by simp, HR3, rfl⟩
      · have hyb : decide (y < -1) = true := decide_eq_true (by omega)
        have hr := HR2.out
        rw [decide_eq_false hy, Bool.false_and] at hr
        subst hr
        clear HR2
        go_wp2
        go_ret
        exact ⟨rfl, rfl⟩
    · obtain rfl : k = ks.length := by omega
      have hr := HR.out
      rw [List.drop_length] at hr
      subst hr
      clear HR HK
      go_wp2
      go_ret
      exact ⟨ret_bool (by simp [pathGo]), rfl⟩
def armsGo : List Int → Bool
  | [] => true
  | [k] => inI k 1
  | k :: _ :: r => inI k 1 && armsGo r
theorem armsGo_at {l : List Int} {k : Nat} (h : k < l.length) : armsGo (l.drop k) = (inI l[k] 1 && armsGo (l.drop (k + 2))) := by
  rw [List.drop_eq_getElem_cons h]
  by_cases h2 : k + 1 < l.length
  · rw [List.drop_eq_getElem_cons h2, armsGo]
  · rw [List.drop_eq_nil_of_le (by omega), List.drop_eq_nil_of_le (by omega), armsGo, armsGo, Bool.and_true]
set_option maxRecDepth 100000 in
set_option maxHeartbeats 2000000 in
theorem areArms_any (w : World) (B : Nat) (a : Option Addr) (cp : Nat) (ks : List Int) (hk : IntsV w B a cp ks) (hlen : ks.length ≤ 281474976710656) : Calls Tryd.prog 87 #[.slice a ks.length cp] w fun e w' => e = .returned (.bool (armsGo ks && ks.length % 2 == 0)) ∧ w = w' := by
  have HG : Bx (armsGo (ks.drop 0) = armsGo ks) := ⟨by rw [List.drop_zero]⟩
  have HK : Bx _ := ⟨hk⟩
  have hcp := hk.cap
  have HW : Bx (∀ y, _) := ⟨fun y => within_any y 1 w⟩
  clear hk
  generalize armsGo ks = r at *
  go_enter Tryd.func87, Tryd.ntmps87
  go_wp2
  go_loopg [3] (ks.length + 2) (fun f v3 wr => ∃ k : Nat, f = ks.length + 2 - k ∧ k ≤ ks.length + 1 ∧ v3 = .int .i64 k ∧ Bx (armsGo (ks.drop k) = r) ∧ w = wr)
  case atStart => exact ⟨0, by simp, Nat.zero_le _, rfl, HG, rfl⟩
  case round =>
    obtain ⟨k, hf, hk, rfl, HR, rfl⟩ := hrel
    by_cases hlt : k < ks.length
    · obtain ⟨b, o, rfl, hb, hc⟩ := HK.out.at_ (by omega)
      have c0 := hc k hlt
      have HR2 : Bx _ := ⟨(armsGo_at hlt).symm.trans HR.out⟩
      have hkI : (k : Int) < (ks.length : Int) := by omega
      clear hc HR HK
      generalize ks[k] = y at *
      cases hy : inI y 1 with
      | true =>
        have hr := HR2.out
        rw [hy, Bool.true_and] at hr
        have HR3 : Bx _ := ⟨hr⟩
        have HWY := HW.out y
        rw [hy] at HWY
        clear hr HR2 hy HW
        go_wp2_with (first
          | (go_at_call 49; refine HWY.mono ?_; rintro e w1 ⟨rfl, rfl⟩))
        go_roundg (ks.length + 2 - (k + 2))
        case measure => omega
        case rel => exact ⟨k + 2, rfl, by omega, by simp, HR3, rfl⟩
      | false =>
        have hr := HR2.out
        rw [hy, Bool.false_and] at hr
        subst hr
        have HWY := HW.out y
        rw [hy] at HWY
        clear HR2 hy HW
        go_wp2_with (first
          | (go_at_call 49; refine HWY.mono ?_; rintro e w1 ⟨rfl, rfl⟩))
        go_ret
        exact ⟨rfl, rfl⟩
    · have hr := HR.out
      rw [List.drop_eq_nil_of_le (by omega)] at hr
      subst hr
      have hge : decide ((k : Int) < (ks.length : Int)) = false := decide_eq_false (by omega)
      clear HR HK HW
      go_wp2
      go_ret
      exact ⟨ret_bool (by rw [armsGo, Bool.true_and, Bool.eq_iff_iff, beq_iff_eq, beq_iff_eq]; omega), rfl⟩
def listI (v : Int) (l : List Int) : Bool := if v = 10 then pathGo l && decide (0 < l.length) else if v = 11 then armsGo l && l.length % 2 == 0 else l.length == 0
set_option maxRecDepth 100000 in
set_option maxHeartbeats 2000000 in
theorem fitsList_any (w : World) (B : Nat) (a : Option Addr) (cp : Nat) (ks : List Int) (hk : IntsV w B a cp ks) (hlen : ks.length ≤ 281474976710656) (v : Int) : Calls Tryd.prog 72 #[.int .i64 v, .slice a ks.length cp] w fun e w' => e = .returned (.bool (listI v ks)) ∧ w = w' := by
  have HP : Bx _ := ⟨isPath_any w B a cp ks hk hlen⟩
  have HA : Bx _ := ⟨areArms_any w B a cp ks hk hlen⟩
  unfold listI
  clear hk
  by_cases h1 : v = 10
  · subst h1
    rw [if_pos rfl]
    go_enter Tryd.func72, Tryd.ntmps72
    go_wp2_with (first
      | (go_at_call 86; refine HP.out.mono ?_; rintro e w1 ⟨rfl, rfl⟩))
    go_ret
    exact ⟨rfl, rfl⟩
  · rw [if_neg h1]
    have b1 : (v == 10) = false := by simp [h1]
    by_cases h2 : v = 11
    · subst h2
      rw [if_pos rfl]
      clear h1
      go_enter Tryd.func72, Tryd.ntmps72
      go_wp2_with (first
        | (go_at_call 87; refine HA.out.mono ?_; rintro e w1 ⟨rfl, rfl⟩))
      go_ret
      exact ⟨rfl, rfl⟩
    · rw [if_neg h2]
      have b2 : (v == 11) = false := by simp [h2]
      clear h1 h2 HP HA
      go_enter Tryd.func72, Tryd.ntmps72
      go_wp2
      go_ret
      exact ⟨ret_bool (by rw [Bool.eq_iff_iff, beq_iff_eq, beq_iff_eq]; omega), rfl⟩
end Go.Proofs.YtadmpgegolmkgaaDoor
