import Derived.Test.YtijdcplffmdijaaDoorCDIa
import Derived.Test.YtijdcplffmdijaaDoorCDHa
import Derived.Test.YtijdcplffmdijaaDoorCDFf
namespace Go.Proofs.YtijdcplffmdijaaDoor
open Go.RowKit
set_option linter.unusedVariables false
set_option linter.unusedSimpArgs false

/-- the words of a line -/
def wordsL (s : List UInt8) : List (List UInt8) := (pieces 32 s).1 :: (pieces 32 s).2
theorem words_none {s : List UInt8} (h : (32 : UInt8) ∉ s) : wordsL s = [s] := by
  unfold wordsL
  rw [pieces_none h]
theorem words_app {l r : List UInt8} (h : (32 : UInt8) ∉ l) : wordsL (l ++ 32 :: r) = l :: wordsL r := by
  unfold wordsL
  rw [pieces_app h]
/-- what is cut off so far -/
def Spl (s : List UInt8) (i f : Nat) (ws : List (List UInt8)) : Prop := (i ≤ s.length ∧ f ≤ i ∧ ws ++ wordsL (s.drop f) = wordsL s ∧ (32 : UInt8) ∉ (s.drop f).take (i - f)) ∨ (i = s.length + 1 ∧ ws = wordsL s)
theorem Spl.start (s : List UInt8) : Spl s 0 0 [] := .inl ⟨Nat.zero_le _, Nat.le_refl _, rfl, by simp⟩
theorem Spl.stop {s : List UInt8} {i f : Nat} {ws : List (List UInt8)} (h : Spl s i f ws) (hi : s.length < i) : ws = wordsL s := by
  rcases h with h | h
  · omega
  · exact h.2
theorem Spl.last {s : List UInt8} {f : Nat} {ws : List (List UInt8)} (h : Spl s s.length f ws) : f ≤ s.length ∧ Spl s (s.length + 1) (s.length + 1) (ws ++ [s.drop f]) := by
  rcases h with ⟨h1, h2, h3, h4⟩ | h
  · rw [List.take_of_length_le (by rw [List.length_drop]; omega)] at h4
    rw [words_none h4] at h3
    exact ⟨h2, .inr ⟨rfl, h3⟩⟩
  · omega
theorem drop_cut {s : List UInt8} {i f : Nat} (hf : f ≤ i) (hi : i < s.length) : s.drop f = (s.drop f).take (i - f) ++ s[i] :: s.drop (i + 1) := by
  have e : s[i] :: s.drop (i + 1) = s.drop i := (List.drop_eq_getElem_cons hi).symm
  have e2 : s.drop i = (s.drop f).drop (i - f) := by rw [List.drop_drop]; congr 1; omega
  rw [e, e2, List.take_append_drop]
theorem Spl.cut {s : List UInt8} {i f : Nat} {ws : List (List UInt8)} (h : Spl s i f ws) (hi : i < s.length) (hc : s[i] = 32) : f ≤ i ∧ Spl s (i + 1) (i + 1) (ws ++ [(s.drop f).take (i - f)]) := by
  rcases h with ⟨h1, h2, h3, h4⟩ | h
  · refine ⟨h2, .inl ⟨hi, Nat.le_refl _, ?_, by simp⟩⟩
    rw [drop_cut h2 hi, hc, words_app h4] at h3
    rw [← h3]
    simp
  · omega
theorem Spl.go {s : List UInt8} {i f : Nat} {ws : List (List UInt8)} (h : Spl s i f ws) (hi : i < s.length) (hc : s[i] ≠ 32) : Spl s (i + 1) f ws := by
  rcases h with ⟨h1, h2, h3, h4⟩ | h
  · refine .inl ⟨hi, by omega, h3, ?_⟩
    have hl : i - f < (s.drop f).length := by rw [List.length_drop]; omega
    have e : i + 1 - f = (i - f) + 1 := by omega
    rw [e, List.take_succ_eq_append_getElem hl, List.mem_append, not_or]
    refine ⟨h4, ?_⟩
    have e2 : (s.drop f)[i - f] = s[i] := by
      rw [List.getElem_drop]
      congr 1
      omega
    rw [e2, List.mem_singleton]
    exact fun h => hc h.symm
  · omega
theorem Spl.few {s : List UInt8} {i f : Nat} {ws : List (List UInt8)} (h : Spl s i f ws) : ws.length ≤ s.length + 1 := by
  have hp := pieces_len 32 s
  rcases h with ⟨h1, h2, h3, h4⟩ | h
  · have := congrArg List.length h3
    unfold wordsL at this
    simp at this
    omega
  · rw [h.2]
    unfold wordsL
    simp
    omega
/-- strings in a row of one's own -/
def SRo (w : World) (B : Nat) (v : Value) (ws : List (List UInt8)) : Prop := w.ownsRow B 9 1 v ws.length (ws.map strV)
theorem SRo.below {w w' : World} {B : Nat} {v : Value} {ws : List (List UInt8)} (h : SRo w B v ws) (hb : Below w.heap.size w w') : SRo w' B v ws := owns_same h fun g _ hg => hb.block g hg
theorem infoStr : (Tryd.prog.info? 9).map (fun i => (i.zero, i.size, i.bytes)) = some (some (.string ⟨#[]⟩), 1, 16) := by kernel_rfl
theorem app_str (W : World) (B : Nat) (v : Value) (ws : List (List UInt8)) (ho : SRo W B v ws) (x : List UInt8) (hB : B ≤ W.heap.size) (hl : ws.length ≤ 8796093022200) :
    ∃ v' W3, (∀ ty, (Builtin.append_ #[63, 63] ty #[v, .slice (some ⟨W.heap.size, 0, none⟩) 1 1]).run Tryd.prog (W.alloc (.cells #[strV x] 9)) = .ok v' W3) ∧ SRo W3 B v' (ws ++ [x]) ∧ W.grownBy W3 v.ownBlock := by
  obtain ⟨i0, hi0, hz0, hz1, hz2⟩ := info_parts infoStr
  obtain ⟨g, c, W3, h1, h2, h3⟩ := app1 Tryd.underlying63 hi0 hz0 hz1 hz2 rfl (by decide) W B v ws.length _ ho #[strV x] rfl (by simp [strV, Value.oneCell']) (by unfold maxLen; omega) (by omega) hB
  refine ⟨_, W3, h1, ?_, h3⟩
  unfold SRo
  rw [List.map_append, List.length_append]
  exact h2
theorem SRo.at_ {w : World} {B : Nat} {v : Value} {ws : List (List UInt8)} (h : SRo w B v ws) (h0 : 0 < ws.length) : ∃ g cap, v = .slice (some ⟨g, 0, none⟩) ws.length cap ∧ B ≤ g ∧ g < w.heap.size ∧ ∀ j (hj : j < ws.length), w.cell? ⟨g, j, none⟩ = some (strV ws[j]) := by
  have h' : w.ownsRow B 9 1 v ws.length (ws.map strV) := h
  rcases h'.2 with ⟨rfl, hn⟩ | ⟨g, cap, cur, rfl, hB, hg, q1, q2, q3, q4⟩
  · omega
  · refine ⟨g, cap, rfl, hB, (Array.getElem?_eq_some_iff.1 hg).1, fun i hi => ?_⟩
    rw [World.cell?]
    simp only [hg]
    have e := congrArg (·[i]?) q4
    simp only [List.getElem?_map] at e
    rw [List.getElem?_take_of_lt (by omega), Array.getElem?_toList, List.getElem?_eq_getElem hi] at e
    simpa using e
theorem SRo.mk0 (W : World) (H : Nat) (hH : W.heap.size = H) : SRo (W.alloc (.cells #[] 9)) H (.slice (some ⟨H, 0, none⟩) 0 0) [] := by
  subst hH
  exact ⟨rfl, .inr ⟨W.heap.size, 0, #[], rfl, Nat.le_refl _, heap_alloc_new W _, Nat.le_refl _, by simp [maxLen], rfl, rfl⟩⟩
theorem SRo.lt {w : World} {B : Nat} {v : Value} {ws : List (List UInt8)} (h : SRo w B v ws) {g : Nat} (hg : v.ownBlock = some g) : B ≤ g ∧ g < w.heap.size := owns_block h hg
theorem numsOf_snoc (l : List (List UInt8)) (t : List UInt8) (ks : List Int) (n : Int) (h : numsOf l = some ks) (hn : numOf t = some n) : numsOf (l ++ [t]) = some (ks ++ [n]) := by
  induction l generalizing ks with
  | nil =>
    simp only [numsOf, Option.some.injEq] at h
    subst h
    simp [numsOf, hn]
  | cons a r ih =>
    rw [numsOf] at h
    rw [List.cons_append, numsOf]
    cases ha : numOf a with
    | none => rw [ha] at h; cases h
    | some m =>
      rw [ha] at h
      simp only [Option.map_eq_some_iff] at h
      obtain ⟨k', hk', rfl⟩ := h
      simp only [ih k' hk']
      rfl
theorem numsOf_bad (l r : List (List UInt8)) (t : List UInt8) (hn : numOf t = none) : numsOf (l ++ t :: r) = none := by
  induction l with
  | nil => simp [numsOf, hn]
  | cons a l ih =>
    rw [List.cons_append, numsOf]
    cases ha : numOf a with
    | none => rfl
    | some m => simp only [ih]; rfl
end Go.Proofs.YtijdcplffmdijaaDoor
namespace Go.Proofs.YtijdcplffmdijaaDoor
open Go.RowKit
set_option linter.unusedVariables false
set_option linter.unusedSimpArgs false

theorem ext_str (s : List UInt8) (f i : Nat) : strV ((s.drop f).take (i - f)) = .string ((⟨s.toArray⟩ : ByteArray).extract f i) := by
  unfold strV
  congr 1
  apply Go.WideShapes.bytes_inj
  rw [Lib.extract_data]
theorem ext_last (s : List UInt8) (f : Nat) : strV (s.drop f) = .string ((⟨s.toArray⟩ : ByteArray).extract f s.length) := by
  rw [← ext_str, List.take_of_length_le (by rw [List.length_drop]; omega)]
theorem piece_le (c : UInt8) : ∀ l : List UInt8, (pieces c l).1.length ≤ l.length ∧ ∀ p ∈ (pieces c l).2, p.length ≤ l.length
  | [] => by simp [pieces]
  | x :: r => by
    obtain ⟨h1, h2⟩ := piece_le c r
    rw [pieces]
    split
    · refine ⟨by simp, fun p hp => ?_⟩
      simp only [List.mem_cons] at hp
      rcases hp with rfl | hp
      · simp; omega
      · have := h2 p hp; simp; omega
    · refine ⟨by simp; omega, fun p hp => ?_⟩
      have := h2 p hp
      simp
      omega
theorem nro_le {w : World} {B B' : Nat} {v : Value} {ks : List Int} (h : NRo w B v ks) (hb : B' ≤ B) : NRo w B' v ks :=
  ⟨h.own.1, h.own.2.elim Or.inl fun ⟨g, cap, cur, hv, hg, r⟩ => Or.inr ⟨g, cap, cur, hv, Nat.le_trans hb hg, r⟩⟩
theorem number_no (w : World) (t : List UInt8) (hl : t.length ≤ 1099511627776) (h : numOf t = none) : Calls Tryd.prog 77 #[strV t] w fun e w' => ∃ n : Int, e = .returned (.tuple #[.int .i64 n, .bool false]) ∧ Bx (Below w.heap.size w w') :=
  (number_any w t hl).mono fun e w' ⟨n, b, h1, h2⟩ => by
    obtain ⟨h3, h4⟩ := h2.out
    rw [h] at h3
    simp only [] at h3
    subst h3
    exact ⟨n, h1, ⟨h4⟩⟩
theorem number_yes (w : World) (t : List UInt8) (hl : t.length ≤ 1099511627776) (m : Int) (h : numOf t = some m) : Calls Tryd.prog 77 #[strV t] w fun e w' => e = .returned (.tuple #[.int .i64 m, .bool true]) ∧ Bx (Below w.heap.size w w') :=
  (number_any w t hl).mono fun e w' ⟨n, b, h1, h2⟩ => by
    obtain ⟨h3, h4⟩ := h2.out
    rw [h] at h3
    obtain ⟨rfl, rfl⟩ := h3
    exact ⟨h1, ⟨h4⟩⟩
set_option maxRecDepth 100000 in
set_option maxHeartbeats 4000000 in
theorem rsplit_any (s : List UInt8) (w : World) (hl : s.length ≤ 1099511627776) :
    Calls Tryd.prog 67 #[strV s] w (SplitA w s) := by
  obtain ⟨Q, hQ⟩ : ∃ Q, Q = SplitA w s := ⟨_, rfl⟩
  have HQ0 : Bx (∀ e w', numsOf (pieces 32 s).2 = none → e = .returned (.tuple #[strV [], .slice none 0 0, .bool false]) → Below w.heap.size w w' → Q e w') := ⟨fun e w' h h1 h2 => by rw [hQ]; unfold SplitA; rw [h]; exact ⟨h1, h2⟩⟩
  have HQ1 : Bx (∀ e w' v l, numsOf (pieces 32 s).2 = some l → e = .returned (.tuple #[strV (pieces 32 s).1, v, .bool true]) → NRo w' w.heap.size v l → Below w.heap.size w w' → Q e w') := ⟨fun e w' v l h h1 h2 h3 => by rw [hQ]; unfold SplitA; rw [h]; exact ⟨v, h1, h2, h3⟩⟩
  rw [← hQ]
  clear hQ
  obtain ⟨H, hH⟩ : ∃ H, w.heap.size = H := ⟨_, rfl⟩
  rw [hH] at HQ0 HQ1
  obtain ⟨W1, hW1⟩ : ∃ X, w.alloc (.cells #[] 9) = X := ⟨_, rfl⟩
  have HS1 : Bx (SRo W1 H (.slice (some ⟨H, 0, none⟩) 0 0) []) := ⟨by rw [← hW1]; exact SRo.mk0 w H hH⟩
  have HB1 : Bx (Below H w W1) := ⟨by rw [← hW1, ← hH]; exact below1 w _⟩
  have hHw : H ≤ W1.heap.size := by have := HB1.out.size; omega
  go_enter Tryd.func67, Tryd.ntmps67
  go_wp2
  clear hW1
  go_loopw [7, 6, 5] (fun x y v wr => ∃ (i f : Nat) (ws : List (List UInt8)) (vv : Value), i ≤ s.length + 1 ∧ f ≤ s.length + 1 ∧ x = .int .i64 (i : Int) ∧ y = .int .i64 (f : Int) ∧ vv = v ∧ Bx (Spl s i f ws ∧ SRo wr H vv ws ∧ Below H w wr)) (fun x _ _ _ => s.length + 2 - (intOf x).toNat)
  case atStart => exact ⟨0, 0, [], _, by omega, by omega, rfl, rfl, rfl, ⟨Spl.start s, HS1.out, HB1.out⟩⟩
  case round =>
    obtain ⟨i, f, ws, vv, hi, hf, rfl, rfl, rfl, HI⟩ := hrel
    clear HS1 HB1
    by_cases h1 : i = s.length + 1
    · obtain ⟨wq, hwq⟩ : ∃ x, x = wr := ⟨_, rfl⟩
      subst hwq
      have HW : SRo wq H vv (wordsL s) ∧ Below H w wq := by have := HI.out.1.stop (by omega); rw [← this]; exact HI.out.2
      clear HI
      subst h1
      obtain ⟨g, cap, rfl, hg1, hg2, hc⟩ := HW.1.at_ (by simp [wordsL])
      obtain ⟨_, HB⟩ : True ∧ Bx _ := ⟨trivial, ⟨HW.2⟩⟩
      clear HW
      have HPL : Bx (∀ p ∈ (pieces 32 s).2, p.length ≤ s.length) := ⟨(piece_le 32 s).2⟩
      have HPN := pieces_len 32 s
      unfold wordsL at hc ⊢
      obtain ⟨wd, hwd⟩ : ∃ x, (pieces 32 s).1 = x := ⟨_, rfl⟩
      obtain ⟨PS, hPS⟩ : ∃ x, (pieces 32 s).2 = x := ⟨_, rfl⟩
      rw [hwd, hPS] at hc
      rw [hwd] at HQ1
      rw [hPS] at HQ0 HQ1 HPL HPN
      simp only [hwd, hPS, List.length_cons]
      clear hwd hPS
      obtain ⟨H3, hH3⟩ : ∃ x, wq.heap.size = x := ⟨_, rfl⟩
      have hHH : H ≤ H3 := by have := HB.out.size; omega
      have HC0 : Bx (∀ X, Below H3 wq X → X.cell? ⟨g, 0, none⟩ = some (strV wd)) := ⟨fun X hX => by rw [hX.cell (p := ⟨g, 0, none⟩) (by simp; omega)]; exact hc 0 (by simp)⟩
      have HCk : Bx (∀ X, Below H3 wq X → ∀ k (hk : k < PS.length), X.cell? ⟨g, 1 + k, none⟩ = some (strV PS[k])) := ⟨fun X hX k hk => by rw [hX.cell (p := ⟨g, 1 + k, none⟩) (by simp; omega), hc (1 + k) (by simp; omega)]; congr 2; rw [List.getElem_cons]; simp [show ¬ 1 + k = 0 by omega]⟩
      obtain ⟨W3, hW3⟩ : ∃ X, wq.alloc (.cells #[] 3) = X := ⟨_, rfl⟩
      have HN3 : Bx (NRo W3 H3 (.slice (some ⟨H3, 0, none⟩) 0 0) []) := ⟨by rw [← hW3]; exact NRo.mk0 wq H3 hH3⟩
      have HB3 : Bx (Below H3 wq W3) := ⟨by rw [← hW3, ← hH3]; exact below1 wq _⟩
      clear hc
      have hlt0 : ¬ ((s.length + 1 : Nat) : Int) ≤ (s.length : Int) := by omega
      go_wp2
      clear hW3
      go_loopw [9, 8] (fun x v wx => ∃ (k : Nat) (ks : List Int) (vv : Value), k ≤ PS.length ∧ x = .int .i64 ((1 + k : Nat) : Int) ∧ vv = v ∧ Bx (numsOf (PS.take k) = some ks ∧ NRo wx H3 vv ks ∧ Below H3 wq wx ∧ ks.length ≤ k)) (fun x _ _ => PS.length + 1 - (intOf x).toNat)
      case atStart => exact ⟨0, [], _, Nat.zero_le _, rfl, rfl, ⟨rfl, HN3.out, HB3.out, Nat.le_refl _⟩⟩
      case round =>
        obtain ⟨k, ks, vk, hk, rfl, rfl, HK⟩ := hrel
        clear HN3 HB3
        have hc0 := HC0.out wr HK.out.2.2.1
        by_cases hkl : k < PS.length
        · have hck := HCk.out wr HK.out.2.2.1 k hkl
          have hpl := HPL.out PS[k] (List.getElem_mem hkl)
          have hdt : PS = PS.take k ++ PS[k] :: PS.drop (k + 1) := by rw [← List.drop_eq_getElem_cons hkl, List.take_append_drop]
          have hdt2 : PS.take (k + 1) = PS.take k ++ [PS[k]] := List.take_succ_eq_append_getElem hkl
          have hkb : ((1 + k : Nat) : Int) < ((PS.length + 1 : Nat) : Int) := by omega
          have hwk : H3 ≤ wr.heap.size := by have := HK.out.2.2.1.size; omega
          have hks : ks.length ≤ k := HK.out.2.2.2
          cases hn : numOf PS[k] with
          | none =>
            have HBADN : Bx (numsOf PS = none) := ⟨by rw [hdt]; exact numsOf_bad _ _ _ hn⟩
            have HCN := number_no wr PS[k] (by omega) hn
            clear hdt hdt2 hn
            generalize PS[k] = t at *
            go_wp2_with (go_at_call 77; refine HCN.mono ?_; rintro e w5 ⟨n5, rfl, HB5⟩)
            exact HQ0.out _ _ HBADN.out rfl (HB.out.trans ((HK.out.2.2.1.trans (HB5.out.mono hwk)).mono hHH))
          | some m =>
            have HNX : Bx (numsOf (PS.take (k + 1)) = some (ks ++ [m])) := ⟨by rw [hdt2]; exact numsOf_snoc _ _ _ _ HK.out.1 hn⟩
            have HCN := number_yes wr PS[k] (by omega) m hn
            clear hdt hdt2 hn
            generalize PS[k] = t at *
            go_wp2_with (first
              | (go_at_call 77; refine HCN.mono ?_; rintro e w5 ⟨rfl, HB5⟩
                 have HN5 : Bx (NRo w5 H3 vk ks) := ⟨HK.out.2.1.below HB5.out⟩
                 have HB6 : Bx (Below H3 wq w5) := ⟨HK.out.2.2.1.trans (HB5.out.mono hwk)⟩
                 have hw5 : H3 ≤ w5.heap.size := by have := HB6.out.size; omega
                 obtain ⟨v6, W6, r6, o6, b6⟩ := app_one w5 H3 vk ks HN5.out m hw5 (by omega)
                 have HO6 : Bx (NRo W6 H3 v6 (ks ++ [m]) ∧ Below H3 wq W6) := ⟨o6, HB6.out.trans b6⟩
                 clear o6 b6)
              | (at_builtin; refine wpList_appI rfl (.tmp 55) (.tmp 57) 26 rfl rfl rfl r6 ?_))
            go_roundw
            case rel => exact ⟨k + 1, ks ++ [m], v6, hkl, by first | (simp; omega) | simp, rfl, ⟨HNX.out, HO6.out.1, HO6.out.2, by simp; omega⟩⟩
            case measure => first | (simp [intOf]; omega) | simp [intOf]
        · have hke : k = PS.length := by omega
          subst hke
          have hkb : ¬ ((1 + PS.length : Nat) : Int) < ((PS.length + 1 : Nat) : Int) := by omega
          have HE : Bx (numsOf PS = some ks) := ⟨by have := HK.out.1; rwa [List.take_length] at this⟩
          go_wp2
          exact HQ1.out _ _ _ ks HE.out rfl (nro_le HK.out.2.1 hHH) (HB.out.trans (HK.out.2.2.1.mono hHH))
    · have hlt0 : (i : Int) ≤ (s.length : Int) := by omega
      by_cases h2 : i = s.length
      · subst h2
        obtain ⟨hfi, HSp⟩ : f ≤ s.length ∧ Bx _ := ⟨HI.out.1.last.1, ⟨HI.out.1.last.2⟩⟩
        have hfi2 : (f : Int) ≤ (s.length : Int) := by omega
        have hwr : H ≤ wr.heap.size := by have := HI.out.2.2.size; omega
        obtain ⟨v4, W4, r4, o4, g4⟩ := app_str wr H vv ws HI.out.2.1 (s.drop f) hwr (by have := HI.out.1.few; omega)
        have e1 : strV (s.drop f) = .string ((⟨s.toArray⟩ : ByteArray).extract f s.length) := (ext_last s f)
        rw [e1] at r4
        have HO4 : Bx (SRo W4 H v4 (ws ++ [s.drop f]) ∧ Below H w W4) := ⟨o4, HI.out.2.2.grown g4 hwr fun k hk => (HI.out.2.1.lt hk).1⟩
        clear HI o4 g4 e1
        go_wp2_with (at_builtin; refine wpList_appI rfl (.tmp 29) (.tmp 34) 63 rfl rfl rfl r4 ?_)
        go_roundw
        case rel => exact ⟨s.length + 1, s.length + 1, _, v4, by omega, by omega, by simp, by simp, rfl, ⟨HSp.out, HO4.out⟩⟩
        case measure => first | (simp [intOf]; omega) | simp [intOf]
      · have hil : i < s.length := by omega
        have hil2 : (i : Int) < (s.length : Int) := by omega
        have hine : ¬ (i : Int) = (s.length : Int) := by omega
        by_cases h3 : s[i]'hil = 32
        · have hc3 : ∀ hi, (⟨s.toArray⟩ : ByteArray)[i]'hi = 32 := fun hi => h3
          obtain ⟨hfi, HSp⟩ : f ≤ i ∧ Bx _ := ⟨(HI.out.1.cut hil h3).1, ⟨(HI.out.1.cut hil h3).2⟩⟩
          have hfi2 : (f : Int) ≤ (i : Int) := by omega
          have hwr : H ≤ wr.heap.size := by have := HI.out.2.2.size; omega
          obtain ⟨v4, W4, r4, o4, g4⟩ := app_str wr H vv ws HI.out.2.1 ((s.drop f).take (i - f)) hwr (by have := HI.out.1.few; omega)
          have e1 : strV ((s.drop f).take (i - f)) = .string ((⟨s.toArray⟩ : ByteArray).extract f i) := (ext_str s f i)
          rw [e1] at r4
          have HO4 : Bx (SRo W4 H v4 (ws ++ [(s.drop f).take (i - f)]) ∧ Below H w W4) := ⟨o4, HI.out.2.2.grown g4 hwr fun k hk => (HI.out.2.1.lt hk).1⟩
          clear HI o4 g4 e1
          go_wp2_with (at_builtin; refine wpList_appI rfl (.tmp 29) (.tmp 34) 63 rfl rfl rfl r4 ?_)
          go_roundw
          case rel => exact ⟨i + 1, i + 1, _, v4, by omega, by omega, by simp, by simp, rfl, ⟨HSp.out, HO4.out⟩⟩
          case measure => first | (simp [intOf]; omega) | simp [intOf]
        · have hsz : i < (⟨s.toArray⟩ : ByteArray).size := by show i < s.toArray.size; simpa using hil
          have hc3 : ¬ (((⟨s.toArray⟩ : ByteArray)[i]'hsz).toNat : Int) = 32 := fun h => h3 (UInt8.toNat_inj.1 (by have h : ((s[i]).toNat : Int) = 32 := h; show s[i].toNat = 32; omega))
          have hc4 : ((((⟨s.toArray⟩ : ByteArray)[i]'hsz).toNat : Int) == 32) = false := by simpa using hc3
          have hin4 : ((i : Int) == (s.length : Int)) = false := by simpa using hine
          have HSp : Bx (Spl s (i + 1) f ws ∧ SRo wr H vv ws ∧ Below H w wr) := ⟨HI.out.1.go hil h3, HI.out.2⟩
          clear HI h3 hc3
          go_wp2
          go_roundw
          case rel => exact ⟨i + 1, f, ws, vv, by omega, hf, by simp, rfl, rfl, HSp⟩
          case measure => simp [intOf]; omega
end Go.Proofs.YtijdcplffmdijaaDoor
