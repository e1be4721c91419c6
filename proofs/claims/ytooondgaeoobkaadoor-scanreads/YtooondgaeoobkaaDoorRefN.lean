import Derived.Test.YtooondgaeoobkaaDoorRefW
namespace Go.Proofs.YtooondgaeoobkaaDoor
open Go.RowKit
set_option linter.unusedVariables false
set_option linter.unusedSimpArgs false

theorem numFrom_snoc (l : List UInt8) (c : UInt8) : ∀ acc, numFrom acc (l ++ [c]) = numFrom acc l * 10 + (c.toNat - 48) := by
  induction l with
  | nil => intro acc; rfl
  | cons b r ih => intro acc; exact ih _
theorem cut_snoc (xs : List UInt8) (k j : Nat) (hk : k ≤ j) (hj : j < xs.length) : cut xs k (j + 1) = cut xs k j ++ [xs[j]] := by
  unfold cut
  rw [show j + 1 - k = (j - k) + 1 by omega, List.take_succ_eq_append_getElem (by simp; omega)]
  simp [show k + (j - k) = j by omega]
theorem numVal_snoc (xs : List UInt8) (k j : Nat) (hk : k ≤ j) (hj : j < xs.length) : numVal (cut xs k (j + 1)) = numVal (cut xs k j) * 10 + (xs[j].toNat - 48) := by
  unfold numVal
  rw [cut_snoc xs k j hk hj, numFrom_snoc]

/-- what the reference holds behind j digits -/
structure NumInv (xs : List UInt8) (k E j : Nat) (a : Int) (ok : Bool) : Prop where
  to : E = spanTo digI xs j
  yes : ok = true → a = (numVal (cut xs k j) : Int)
  no : ok = false → ¬ numVal (cut xs k j) < 9223372036854775808

theorem numInv_start (xs : List UInt8) (k E : Nat) (h : E = spanTo digI xs k) : NumInv xs k E k 0 true := by
  refine ⟨h, ?_, ?_⟩
  · intro _
    have e : cut xs k k = [] := by unfold cut; simp
    rw [e]; rfl
  · intro h; cases h
theorem numInv_over (xs : List UInt8) (k E j : Nat) (a : Int) (ok : Bool) (h : NumInv xs k E j a ok) (hkj : k ≤ j) (hlt : j < xs.length) (hdg : digI (xs[j].toNat : Int) = true) (hov : (9223372036854775807 - ((xs[j].toNat : Int) - 48)) / 10 < a) : NumInv xs k E (j + 1) ((xs[j].toNat : Int) - 48) false := by
  have hd := hdg
  simp only [digI, Bool.and_eq_true, decide_eq_true_eq] at hd
  refine ⟨h.to.trans (spanTo_yes _ _ _ hlt hdg), ?_, ?_⟩
  · intro h; cases h
  · intro _
    rw [numVal_snoc xs k j hkj hlt]
    cases ok
    · have := h.no rfl; omega
    · have := h.yes rfl; omega
theorem numInv_on (xs : List UInt8) (k E j : Nat) (a : Int) (ok : Bool) (h : NumInv xs k E j a ok) (hkj : k ≤ j) (hlt : j < xs.length) (hdg : digI (xs[j].toNat : Int) = true) (ha : 0 ≤ a) : NumInv xs k E (j + 1) (10 * a + ((xs[j].toNat : Int) - 48)) ok := by
  have hd := hdg
  simp only [digI, Bool.and_eq_true, decide_eq_true_eq] at hd
  refine ⟨h.to.trans (spanTo_yes _ _ _ hlt hdg), ?_, ?_⟩
  · intro h0
    rw [numVal_snoc xs k j hkj hlt]
    have := h.yes h0
    omega
  · intro h0
    rw [numVal_snoc xs k j hkj hlt]
    have := h.no h0
    omega

set_option maxHeartbeats 2000000 in
theorem refNumber_core (b o cap : Nat) (xs : List UInt8) (k E : Nat) (w : World) (c0 : Int) (hc0 : w.cell? ⟨b, o + k, none⟩ = some (.int .u8 c0)) (hs : Src w b o xs) (hb : b < w.heap.size) (hl : xs.length ≤ 65536) (hcap : xs.length ≤ cap) (hk : k < xs.length) (hkE : k < E) (hle : E ≤ xs.length) (HE : Box (E = spanTo digI xs k))
    (t : Tok) (c : Nat) (cE : Int) (hcE : E < xs.length → w.cell? ⟨b, o + E, none⟩ = some (.int .u8 cE))
    (HR : Box ((E < xs.length ∧ wsI cE = true) ∨ (c0 = 48 ∧ 1 < E - k) ∨ ¬ numVal (cut xs k E) < 9223372036854775808 → t = tok0 ∧ c = 12))
    (HG : Box (¬ (E < xs.length ∧ wsI cE = true) → ¬ (c0 = 48 ∧ 1 < E - k) → numVal (cut xs k E) < 9223372036854775808 → t = ⟨2, k, E - k, numVal (cut xs k E)⟩ ∧ c = 0)) :
    Calls Tryd.prog 27 #[.slice (some ⟨b, o, none⟩) xs.length cap, .int .i64 k] w fun e w' => e = .returned (.tuple #[tokV t, .int .i64 c]) ∧ Below w.heap.size w w' := by
  have HST : NumInv xs k E k 0 true := numInv_start xs k E HE.out
  have hsub : ((E - k : Nat) : Int) = (E : Int) - (k : Int) := by omega
  have HU : Box _ := ⟨hsub⟩
  clear hsub HE
  go_enter Tryd.func27, Tryd.ntmps27
  go_wp2
  go_loop [6, 7, 8] (fun i n v => ∃ (j : Nat) (a : Int) (ok : Bool), k ≤ j ∧ j ≤ xs.length ∧ 0 ≤ a ∧ a ≤ 9223372036854775807 ∧ i = .int .i64 j ∧ n = .int .i64 a ∧ v = .bool ok ∧ NumInv xs k E j a ok) (fun i _ _ => xs.length - (intOf i).toNat)
  case atStart => exact ⟨k, 0, true, Nat.le_refl _, by omega, by omega, by omega, rfl, rfl, rfl, HST⟩
  case round =>
    obtain ⟨j, a, ok, hkj, hj, ha0, ha1, rfl, rfl, rfl, HN⟩ := hrel
    clear HST
    by_cases hdj : j < xs.length ∧ digI ((xs.getD j 0).toNat : Int) = true
    · obtain ⟨hlt, hdg⟩ := hdj
      have hc := hs j hlt
      have hg : xs.getD j 0 = xs[j] := by simp [List.getD, hlt]
      rw [hg] at hdg
      have hd := hdg
      simp only [digI, Bool.and_eq_true, decide_eq_true_eq] at hd
      obtain ⟨hd0, hd1⟩ := hd
      by_cases hov : (9223372036854775807 - ((xs[j].toNat : Int) - 48)) / 10 < a
      · have HN' := numInv_over xs k E j a ok HN hkj hlt hdg hov
        clear HN hg
        generalize (xs[j].toNat : Int) = d at *
        go_wp2_with (first | (go_at_call 26; refine (refDigit _ _).mono ?_; rintro e w' ⟨rfl, rfl⟩))
        go_round
        case rel => exact ⟨j + 1, d - 48, false, by omega, by omega, by omega, by omega, by go_num, by go_num, rfl, HN'⟩
        case measure => simp [intOf]; omega
      · have HN' := numInv_on xs k E j a ok HN hkj hlt hdg ha0
        clear HN hg
        generalize (xs[j].toNat : Int) = d at *
        go_wp2_with (first | (go_at_call 26; refine (refDigit _ _).mono ?_; rintro e w' ⟨rfl, rfl⟩))
        go_round
        case rel => exact ⟨j + 1, 10 * a + (d - 48), ok, by omega, by omega, by omega, by omega, by go_num, by go_num, rfl, HN'⟩
        case measure => simp [intOf]; omega
    · have hEj : E = j := by
        rw [HN.to]
        by_cases hlt : j < xs.length
        · have hg : xs.getD j 0 = xs[j] := by simp [List.getD, hlt]
          exact spanTo_no _ _ _ hlt (by cases hq : digI (xs[j].toNat : Int); rfl; exact absurd ⟨hlt, by rw [hg]; exact hq⟩ hdj)
        · exact spanTo_end _ _ _ (by omega)
      subst hEj
      have hdig : E < xs.length → digI cE = false := fun h => by
        have h1 := hs E h
        rw [hcE h] at h1
        have h2 : cE = (xs[E].toNat : Int) := by injection h1 with h1; injection h1
        have hg : xs.getD E 0 = xs[E] := by simp [List.getD, h]
        cases hq : digI cE
        · rfl
        · exact absurd ⟨h, by rw [hg, ← h2]; exact hq⟩ hdj
      clear hdj
      by_cases hA : c0 = 48 ∧ 1 < E - k
      · have hz : (c0 == 48) = true := by rw [beq_iff_eq]; exact hA.1
        have h1 : (1 : Int) < (E : Int) - (k : Int) := by omega
        by_cases hW : E < xs.length
        · have hcEE := hcE hW
          have hdE := hdig hW
          have hWI : (E : Int) < (xs.length : Int) := by omega
          clear hcE hdig
          obtain ⟨ht, hcc⟩ := HR.out (.inr (.inl hA))
          subst ht
          subst hcc
          clear HR HG HN hs
          go_wp2_with (first | (go_at_call 26; refine (refDigit _ _).mono ?_; rintro e w' ⟨rfl, rfl⟩) | (go_at_call 24; refine (refLetter _ _).mono ?_; rintro e w' ⟨rfl, rfl⟩))
          refine bodyPost_ret (v := .tuple #[tokV tok0, .int .i64 12]) (by simp [results, Tryd.results27, go_sem, tokV, tok0]) rfl ⟨rfl, ?_⟩
          exact (Below.refl _ _).alloc (Nat.le_refl _) _
        · have hWI : ¬ (E : Int) < (xs.length : Int) := by omega
          clear hcE hdig
          obtain ⟨ht, hcc⟩ := HR.out (.inr (.inl hA))
          subst ht
          subst hcc
          clear HR HG HN hs
          go_wp2_with (first | (go_at_call 26; refine (refDigit _ _).mono ?_; rintro e w' ⟨rfl, rfl⟩) | (go_at_call 24; refine (refLetter _ _).mono ?_; rintro e w' ⟨rfl, rfl⟩))
          refine bodyPost_ret (v := .tuple #[tokV tok0, .int .i64 12]) (by simp [results, Tryd.results27, go_sem, tokV, tok0]) rfl ⟨rfl, ?_⟩
          exact (Below.refl _ _).alloc (Nat.le_refl _) _
      · by_cases h1' : 1 < E - k
        · have hz : (c0 == 48) = false := by
            cases hq : (c0 == 48)
            · rfl
            · exact absurd ⟨beq_iff_eq.1 hq, h1'⟩ hA
          have h1 : (1 : Int) < (E : Int) - (k : Int) := by omega
          by_cases hW : E < xs.length
          · have hcEE := hcE hW
            have hdE := hdig hW
            have hWI : (E : Int) < (xs.length : Int) := by omega
            clear hcE hdig
            cases hws : wsI cE
            · cases ok
              · have hno := HN.no rfl
                obtain ⟨ht, hcc⟩ := HR.out (.inr (.inr hno))
                subst ht
                subst hcc
                clear HR HG HN hs
                go_wp2_with (first | (go_at_call 26; refine (refDigit _ _).mono ?_; rintro e w' ⟨rfl, rfl⟩) | (go_at_call 24; refine (refLetter _ _).mono ?_; rintro e w' ⟨rfl, rfl⟩))
                refine bodyPost_ret (v := .tuple #[tokV tok0, .int .i64 12]) (by simp [results, Tryd.results27, go_sem, tokV, tok0]) rfl ⟨rfl, ?_⟩
                exact (Below.refl _ _).alloc (Nat.le_refl _) _
              · have HV : Box (a = (numVal (cut xs k E) : Int)) := ⟨HN.yes rfl⟩
                have hnv : numVal (cut xs k E) < 9223372036854775808 := by have := HV.out; omega
                obtain ⟨ht, hcc⟩ := HG.out (fun h => by rw [hws] at h; exact absurd h.2 (by simp)) hA hnv
                subst ht
                subst hcc
                clear HR HG HN hs hnv
                go_wp2_with (first | (go_at_call 26; refine (refDigit _ _).mono ?_; rintro e w' ⟨rfl, rfl⟩) | (go_at_call 24; refine (refLetter _ _).mono ?_; rintro e w' ⟨rfl, rfl⟩))
                refine bodyPost_ret (v := .tuple #[tokV ⟨2, k, E - k, numVal (cut xs k E)⟩, .int .i64 0]) (by simp [results, Tryd.results27, go_sem, tokV, HU.out, HV.out]) rfl ⟨rfl, ?_⟩
                exact (Below.refl _ _).alloc (Nat.le_refl _) _
            · obtain ⟨ht, hcc⟩ := HR.out (.inl ⟨hW, hws⟩)
              subst ht
              subst hcc
              clear HR HG HN hs
              go_wp2_with (first | (go_at_call 26; refine (refDigit _ _).mono ?_; rintro e w' ⟨rfl, rfl⟩) | (go_at_call 24; refine (refLetter _ _).mono ?_; rintro e w' ⟨rfl, rfl⟩))
              refine bodyPost_ret (v := .tuple #[tokV tok0, .int .i64 12]) (by simp [results, Tryd.results27, go_sem, tokV, tok0]) rfl ⟨rfl, ?_⟩
              exact (Below.refl _ _).alloc (Nat.le_refl _) _
          · have hWI : ¬ (E : Int) < (xs.length : Int) := by omega
            clear hcE hdig
            cases ok
            · have hno := HN.no rfl
              obtain ⟨ht, hcc⟩ := HR.out (.inr (.inr hno))
              subst ht
              subst hcc
              clear HR HG HN hs
              go_wp2_with (first | (go_at_call 26; refine (refDigit _ _).mono ?_; rintro e w' ⟨rfl, rfl⟩) | (go_at_call 24; refine (refLetter _ _).mono ?_; rintro e w' ⟨rfl, rfl⟩))
              refine bodyPost_ret (v := .tuple #[tokV tok0, .int .i64 12]) (by simp [results, Tryd.results27, go_sem, tokV, tok0]) rfl ⟨rfl, ?_⟩
              exact (Below.refl _ _).alloc (Nat.le_refl _) _
            · have HV : Box (a = (numVal (cut xs k E) : Int)) := ⟨HN.yes rfl⟩
              have hnv : numVal (cut xs k E) < 9223372036854775808 := by have := HV.out; omega
              obtain ⟨ht, hcc⟩ := HG.out (fun h => hW h.1) hA hnv
              subst ht
              subst hcc
              clear HR HG HN hs hnv
              go_wp2_with (first | (go_at_call 26; refine (refDigit _ _).mono ?_; rintro e w' ⟨rfl, rfl⟩) | (go_at_call 24; refine (refLetter _ _).mono ?_; rintro e w' ⟨rfl, rfl⟩))
              refine bodyPost_ret (v := .tuple #[tokV ⟨2, k, E - k, numVal (cut xs k E)⟩, .int .i64 0]) (by simp [results, Tryd.results27, go_sem, tokV, HU.out, HV.out]) rfl ⟨rfl, ?_⟩
              exact (Below.refl _ _).alloc (Nat.le_refl _) _
        · have h1 : ¬ (1 : Int) < (E : Int) - (k : Int) := by omega
          by_cases hW : E < xs.length
          · have hcEE := hcE hW
            have hdE := hdig hW
            have hWI : (E : Int) < (xs.length : Int) := by omega
            clear hcE hdig
            cases hws : wsI cE
            · cases ok
              · have hno := HN.no rfl
                obtain ⟨ht, hcc⟩ := HR.out (.inr (.inr hno))
                subst ht
                subst hcc
                clear HR HG HN hs
                go_wp2_with (first | (go_at_call 26; refine (refDigit _ _).mono ?_; rintro e w' ⟨rfl, rfl⟩) | (go_at_call 24; refine (refLetter _ _).mono ?_; rintro e w' ⟨rfl, rfl⟩))
                refine bodyPost_ret (v := .tuple #[tokV tok0, .int .i64 12]) (by simp [results, Tryd.results27, go_sem, tokV, tok0]) rfl ⟨rfl, ?_⟩
                exact (Below.refl _ _).alloc (Nat.le_refl _) _
              · have HV : Box (a = (numVal (cut xs k E) : Int)) := ⟨HN.yes rfl⟩
                have hnv : numVal (cut xs k E) < 9223372036854775808 := by have := HV.out; omega
                obtain ⟨ht, hcc⟩ := HG.out (fun h => by rw [hws] at h; exact absurd h.2 (by simp)) hA hnv
                subst ht
                subst hcc
                clear HR HG HN hs hnv
                go_wp2_with (first | (go_at_call 26; refine (refDigit _ _).mono ?_; rintro e w' ⟨rfl, rfl⟩) | (go_at_call 24; refine (refLetter _ _).mono ?_; rintro e w' ⟨rfl, rfl⟩))
                refine bodyPost_ret (v := .tuple #[tokV ⟨2, k, E - k, numVal (cut xs k E)⟩, .int .i64 0]) (by simp [results, Tryd.results27, go_sem, tokV, HU.out, HV.out]) rfl ⟨rfl, ?_⟩
                exact (Below.refl _ _).alloc (Nat.le_refl _) _
            · obtain ⟨ht, hcc⟩ := HR.out (.inl ⟨hW, hws⟩)
              subst ht
              subst hcc
              clear HR HG HN hs
              go_wp2_with (first | (go_at_call 26; refine (refDigit _ _).mono ?_; rintro e w' ⟨rfl, rfl⟩) | (go_at_call 24; refine (refLetter _ _).mono ?_; rintro e w' ⟨rfl, rfl⟩))
              refine bodyPost_ret (v := .tuple #[tokV tok0, .int .i64 12]) (by simp [results, Tryd.results27, go_sem, tokV, tok0]) rfl ⟨rfl, ?_⟩
              exact (Below.refl _ _).alloc (Nat.le_refl _) _
          · have hWI : ¬ (E : Int) < (xs.length : Int) := by omega
            clear hcE hdig
            cases ok
            · have hno := HN.no rfl
              obtain ⟨ht, hcc⟩ := HR.out (.inr (.inr hno))
              subst ht
              subst hcc
              clear HR HG HN hs
              go_wp2_with (first | (go_at_call 26; refine (refDigit _ _).mono ?_; rintro e w' ⟨rfl, rfl⟩) | (go_at_call 24; refine (refLetter _ _).mono ?_; rintro e w' ⟨rfl, rfl⟩))
              refine bodyPost_ret (v := .tuple #[tokV tok0, .int .i64 12]) (by simp [results, Tryd.results27, go_sem, tokV, tok0]) rfl ⟨rfl, ?_⟩
              exact (Below.refl _ _).alloc (Nat.le_refl _) _
            · have HV : Box (a = (numVal (cut xs k E) : Int)) := ⟨HN.yes rfl⟩
              have hnv : numVal (cut xs k E) < 9223372036854775808 := by have := HV.out; omega
              obtain ⟨ht, hcc⟩ := HG.out (fun h => hW h.1) hA hnv
              subst ht
              subst hcc
              clear HR HG HN hs hnv
              go_wp2_with (first | (go_at_call 26; refine (refDigit _ _).mono ?_; rintro e w' ⟨rfl, rfl⟩) | (go_at_call 24; refine (refLetter _ _).mono ?_; rintro e w' ⟨rfl, rfl⟩))
              refine bodyPost_ret (v := .tuple #[tokV ⟨2, k, E - k, numVal (cut xs k E)⟩, .int .i64 0]) (by simp [results, Tryd.results27, go_sem, tokV, HU.out, HV.out]) rfl ⟨rfl, ?_⟩
              exact (Below.refl _ _).alloc (Nat.le_refl _) _

theorem refNumber_any (b o cap : Nat) (xs : List UInt8) (k : Nat) (w : World) (hs : Src w b o xs) (hb : b < w.heap.size) (hl : xs.length ≤ 65536) (hcap : xs.length ≤ cap) (hk : k < xs.length) (hd : digI ((xs.getD k 0).toNat : Int) = true) :
    Calls Tryd.prog 27 #[.slice (some ⟨b, o, none⟩) xs.length cap, .int .i64 k] w fun e w' => ∃ t, e = .returned (.tuple #[tokV t, .int .i64 (numR xs k).2]) ∧ ((numR xs k).2 = 0 → t = (numR xs k).1) ∧ Below w.heap.size w w' := by
  have hg : xs.getD k 0 = xs[k] := by simp [List.getD, hk]
  have hkE : k < spanTo digI xs k := by
    rw [spanTo_yes _ _ _ hk (by rw [← hg]; exact hd)]
    have := (spanTo_le digI xs (k + 1) (by omega)).1
    omega
  have hle := (spanTo_le digI xs k (by omega)).2
  have hR : numR xs k = if spanTo digI xs k < xs.length ∧ wsI ((xs.getD (spanTo digI xs k) 0).toNat : Int) = true then (tok0, 12)
    else if ((xs.getD k 0).toNat : Int) = 48 ∧ 1 < spanTo digI xs k - k then (tok0, 12)
    else if numVal (cut xs k (spanTo digI xs k)) < 9223372036854775808 then (⟨2, k, spanTo digI xs k - k, numVal (cut xs k (spanTo digI xs k))⟩, 0)
    else (tok0, 12) := rfl
  refine (refNumber_core b o cap xs k (spanTo digI xs k) w ((xs.getD k 0).toNat : Int) (by rw [hs k hk, hg]) hs hb hl hcap hk hkE hle ⟨rfl⟩ (numR xs k).1 (numR xs k).2 ((xs.getD (spanTo digI xs k) 0).toNat : Int) (fun h => by rw [hs _ h]; simp [List.getD, h]) ⟨fun h => ?_⟩ ⟨fun h1 h2 h3 => ?_⟩).mono ?_
  · rw [hR]
    by_cases n1 : spanTo digI xs k < xs.length ∧ wsI ((xs.getD (spanTo digI xs k) 0).toNat : Int) = true
    · rw [if_pos n1]; exact ⟨rfl, rfl⟩
    · rw [if_neg n1]
      by_cases n2 : ((xs.getD k 0).toNat : Int) = 48 ∧ 1 < spanTo digI xs k - k
      · rw [if_pos n2]; exact ⟨rfl, rfl⟩
      · rw [if_neg n2]
        rcases h with h | h | h
        · exact absurd h n1
        · exact absurd h n2
        · rw [if_neg h]; exact ⟨rfl, rfl⟩
  · rw [hR, if_neg h1, if_neg h2, if_pos h3]; exact ⟨rfl, rfl⟩
  · rintro e w' ⟨rfl, hb1⟩
    exact ⟨_, rfl, fun _ => rfl, hb1⟩
end Go.Proofs.YtooondgaeoobkaaDoor
