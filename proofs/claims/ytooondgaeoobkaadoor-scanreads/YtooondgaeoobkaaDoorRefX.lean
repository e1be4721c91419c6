import Derived.Test.YtooondgaeoobkaaDoorRefN
import Derived.Test.YtooondgaeoobkaaDoorRefS
import Derived.Test.YtooondgaeoobkaaDoorScanA
import Derived.Deep.AppendLies
namespace Go.Proofs.YtooondgaeoobkaaDoor
open Go.RowKit
set_option linter.unusedVariables false
set_option linter.unusedSimpArgs false

/-- what holds ahead of a round of the reference's scan -/
structure RefInv (xs : List UInt8) (f k : Nat) (acc : List Tok) : Prop where
  eq : scanAll xs = scanGo f xs (skipTo xs k) acc
  fuel : xs.length - skipTo xs k < f
  few : acc.length ≤ k
theorem RefInv.on {xs : List UInt8} {f k k' : Nat} {acc : List Tok} (h : RefInv xs f k acc) (e : skipTo xs k = skipTo xs k') (hk : k ≤ k') : RefInv xs f k' acc :=
  ⟨by rw [← e]; exact h.eq, by rw [← e]; exact h.fuel, by have := h.few; omega⟩
theorem RefInv.step {xs : List UInt8} {f k : Nat} {acc : List Tok} {t : Tok} (h : RefInv xs (f + 1) k acc) (e : skipTo xs k = k) (hk : k < xs.length) (hn : nextR xs k = (t, 0)) (h1 : 1 ≤ t.len) (h2 : k + t.len ≤ xs.length) : RefInv xs f (k + t.len) (acc ++ [t]) := by
  have hf := h.fuel
  rw [e] at hf
  have := skipTo_le xs (k + t.len) h2
  refine ⟨?_, by omega, ?_⟩
  · rw [h.eq, e, scanGo, if_pos hk, hn]
    simp
  · have := h.few
    simp
    omega
theorem RefInv.fail {xs : List UInt8} {f k : Nat} {acc : List Tok} {t : Tok} {c : Nat} (h : RefInv xs (f + 1) k acc) (e : skipTo xs k = k) (hk : k < xs.length) (hn : nextR xs k = (t, c)) (hc : c ≠ 0) : scanAll xs = ([], k, c) := by
  rw [h.eq, e, scanGo, if_pos hk, hn, if_neg hc]
theorem RefInv.done {xs : List UInt8} {f k : Nat} {acc : List Tok} (h : RefInv xs (f + 1) k acc) (hk : ¬ k < xs.length) : scanAll xs = (acc, 0, 0) := by
  rw [h.eq, skipTo_end xs k (by omega), scanGo, if_neg hk]

/-- the token's place, written over -/
def set4 (W : World) (b : Nat) (t : Tok) : World := (((W.setCell ⟨b, 0, none⟩ (.int .i64 t.kind)).setCell ⟨b, 1, none⟩ (.int .i64 t.place)).setCell ⟨b, 2, none⟩ (.int .i64 t.len)).setCell ⟨b, 3, none⟩ (.int .i64 t.num)
theorem set4_size (W : World) (b : Nat) (t : Tok) : (set4 W b t).heap.size = W.heap.size := by simp [set4]
theorem set4_below {wr w1 : World} (t : Tok) (hb1 : Below (wr.alloc z4).heap.size (wr.alloc z4) w1) : Below wr.heap.size wr (set4 w1 wr.heap.size t) := by
  unfold set4
  exact ((((((Below.refl _ _).alloc (Nat.le_refl _) _).trans (hb1.mono (by simp))).setCell (Nat.le_refl _) _).setCell (Nat.le_refl _) _).setCell (Nat.le_refl _) _).setCell (Nat.le_refl _) _
theorem set4_len {wr w1 : World} (t : Tok) (hb1 : Below (wr.alloc z4).heap.size (wr.alloc z4) w1) : (set4 w1 wr.heap.size t).cell? ⟨wr.heap.size, 2, none⟩ = some (.int .i64 t.len) := by
  obtain ⟨hcc, _⟩ := bcell hb1
  have hsz : wr.heap.size < w1.heap.size := by have := hb1.size; simp at this; omega
  simp [set4, go_sem, hcc, hsz, z4]
theorem news4 (W : World) (b : Nat) (t : Tok) : ∀ j u, (tokC t)[j]? = some u → ((set4 W b t).alloc (tokO t)).cell? ((⟨W.heap.size, 0, none⟩ : Addr).add j) = some u := by
  have h := heap_alloc_new (set4 W b t) (tokO t)
  rw [set4_size] at h
  exact World.news_of_block (cs := #[.int .i64 t.kind, .int .i64 t.place, .int .i64 t.len, .int .i64 t.num]) h
theorem ref_step {w wr w1 w2 : World} {u : Value} {n : Nat} {cs : List Value} {t : Tok} (hown : wr.ownsRow (w.heap.size + 1) 40 4 u n cs) (HB : ScanMem w wr) (hb1 : Below (wr.alloc z4).heap.size (wr.alloc z4) w1)
    (hg : ((set4 w1 wr.heap.size t).alloc (tokO t)).grownBy w2 u.ownBlock) : ScanMem w w2 ∧ w2.cell? ⟨wr.heap.size, 2, none⟩ = some (.int .i64 t.len) ∧ wr.heap.size < w2.heap.size := by
  have hz := Below.size HB
  simp at hz
  have hz1 := hb1.size
  simp at hz1
  have hs4 := set4_size w1 wr.heap.size t
  have hgs := hg.size
  simp [hs4] at hgs
  refine ⟨?_, ?_, by omega⟩
  · refine Below.grown (Below.trans HB (((set4_below t hb1).mono (by omega)).alloc (by simp [hs4]; omega) _)) hg (by simp [hs4]; omega) ?_
    intro k hk
    exact (hown.lt k hk).1
  · rw [hg.cell_far _ (by simp [hs4]; omega) (by intro e; have := (hown.lt _ e.symm).2; simp at this)]
    have h := set4_len t hb1
    rw [show ((set4 w1 wr.heap.size t).alloc (tokO t)).cell? ⟨wr.heap.size, 2, none⟩ = (set4 w1 wr.heap.size t).cell? ⟨wr.heap.size, 2, none⟩ from ((Below.refl (set4 w1 wr.heap.size t).heap.size (set4 w1 wr.heap.size t)).alloc (Nat.le_refl _) _).cell (by simp [hs4]; omega)]
    exact h

theorem bt {wr w1 : World} {o : Obj} (hb1 : Below (wr.alloc o).heap.size (wr.alloc o) w1) : Below wr.heap.size wr w1 := ((Below.refl _ _).alloc (Nat.le_refl _) _).trans (hb1.mono (by simp))

set_option maxRecDepth 100000 in
set_option maxHeartbeats 8000000 in
theorem refScan_some (b o cap : Nat) (xs : List UInt8) (w : World) (hs : Src w b o xs) (hb : b < w.heap.size) (hl : xs.length ≤ 65536) (hcap : xs.length ≤ cap) :
    Calls Tryd.prog 14 #[.slice (some ⟨b, o, none⟩) xs.length cap] w fun e w' => ∃ v, e = .returned (.tuple #[v, .agg #[.int .i64 (scanAll xs).2.1, .int .i64 (scanAll xs).2.2]]) ∧ w'.ownsRow w.heap.size 40 4 v (scanAll xs).1.length (toksC (scanAll xs).1) ∧ Below w.heap.size w w' := by
  have hml : xs.length ≤ maxLen := by unfold maxLen; omega
  have hst : RefInv xs (xs.length + 1) 0 [] := ⟨by unfold scanAll; rw [if_neg (by omega)], by omega, Nat.zero_le _⟩
  obtain ⟨i0, hi, hz0, hz1, hz2⟩ := info_parts info40
  go_enter Tryd.func14, Tryd.ntmps14
  go_wp2
  go_loopw [4, 5] (fun v i wr => ∃ f k : Nat, ∃ acc : List Tok, k ≤ xs.length ∧ i = .int .i64 k ∧ wr.ownsRow (w.heap.size + 1) 40 4 v acc.length (toksC acc) ∧ ScanMem w wr ∧ RefInv xs f k acc)
    (fun _ i _ => xs.length - (intOf i).toNat)
  case atStart => exact ⟨xs.length + 1, 0, [], Nat.zero_le _, rfl, by simpa [toksC] using World.ownsRow_made (base := w.heap.size + 1) (e := 40) (size := 4) (w.alloc (.cells #[.int .i64 0, .int .i64 0] 34)) #[] 0 (by simp) (Nat.zero_le _) rfl, (Below.refl _ _).alloc (by simp) _, hst⟩
  case round =>
    obtain ⟨f, k, acc, hk, rfl, hown, HB, HE⟩ := hrel
    clear hst
    have hbw := HB.below
    have hszw := hbw.size
    have hbr : b < wr.heap.size := by omega
    by_cases hlt : k < xs.length
    · have hc := (hs.below hb hbw) k hlt
      have hg : xs.getD k 0 = xs[k] := by simp [List.getD, hlt]
      cases hbl : blankI (xs[k].toNat : Int)
      · cases hrm : ((xs[k].toNat : Int) == 35)
        · have e0 := skipTo_no xs k hlt hbl hrm
          have hlen := nextR_len xs k hlt
          have hnR : nextR xs k = if wsI ((xs.getD k 0).toNat : Int) = true then wordR xs k else if digI ((xs.getD k 0).toNat : Int) = true then numR xs k else signR xs k := rfl
          rw [hg] at hnR
          obtain ⟨f, rfl⟩ : ∃ f', f = f' + 1 := ⟨f - 1, by have := HE.fuel; omega⟩
          have hfew := HE.few
          have HBT : ∀ (w1 : World) (t : Tok), Below (wr.alloc z4).heap.size (wr.alloc z4) w1 → Below w.heap.size w (set4 w1 wr.heap.size t) := fun w1 t hb1 => hbw.trans ((set4_below t hb1).mono hszw)
          have HF := fault_cells HB
          have hne : w.heap.size < wr.heap.size := by have := Below.size HB; simp at this; omega
          rcases hr : nextR xs k with ⟨t, c⟩
          rw [hr] at hlen hnR
          simp only at hlen
          cases hws : wsI (xs[k].toNat : Int)
          · rw [if_neg (by rw [hws]; simp)] at hnR
            cases hdg : digI (xs[k].toNat : Int)
            · rw [if_neg (by rw [hdg]; simp)] at hnR
              have HN : Box (∀ W, Below w.heap.size w W → Calls Tryd.prog 28 #[.slice (some ⟨b, o, none⟩) xs.length cap, .int .i64 k] W fun e w' => ∃ t', e = .returned (.tuple #[tokV t', .int .i64 c]) ∧ (c = 0 → t' = t) ∧ Below W.heap.size W w') :=
                ⟨fun W hW => by have h := refSign_any b o cap xs k W (hs.below hb hW) (by have := hW.size; omega) hl hcap hlt (by rw [hg]; exact hws); rw [← hnR] at h; exact h⟩
              by_cases hc0 : c = 0
              · subst hc0
                obtain ⟨hlen1, hlen2⟩ := hlen rfl
                have HE' : RefInv xs f (k + t.len) (acc ++ [t]) := HE.step e0 hlt hr hlen1 hlen2
                have HM : Box (∀ W, Below w.heap.size w W → Calls Tryd.prog 28 #[.slice (some ⟨b, o, none⟩) xs.length cap, .int .i64 k] W fun e w' => e = .returned (.tuple #[tokV t, .int .i64 0]) ∧ Below W.heap.size W w') := ⟨fun W hW => (HN.out W hW).mono (by rintro e w' ⟨t', rfl, h, hb⟩; obtain rfl := h rfl; exact ⟨rfl, hb⟩)⟩
                clear hlen hnR hr e0 HF HBT hg HN
                clear hs HE
                go_wp2_with (first | (go_at_call 23; refine (refBlank _ _).mono ?_; rintro e w' ⟨rfl, rfl⟩) | (go_at_call 24; refine (refLetter _ _).mono ?_; rintro e w' ⟨rfl, rfl⟩) | (go_at_call 26; refine (refDigit _ _).mono ?_; rintro e w' ⟨rfl, rfl⟩) | (go_at_call 28; refine Calls.mono (HM.out _ (hbw.alloc (hbw.size) _)) ?_; rintro e w1 ⟨rfl, hb1⟩; obtain ⟨hcc, hff⟩ := bcell hb1; have hsz : wr.heap.size < w1.heap.size := (by have := hb1.size; simp at this; omega); unfold tokV) | (at_builtin; refine wpList_append_lies _ rfl (.tmp 76) (.tmp 78) 31 rfl (w.heap.size + 1) 40 i0 (.agg #[.int .i64 0, .int .i64 0, .int .i64 0, .int .i64 0]) 4 32 Tryd.underlying31 hi hz0 hz1 hz2 rfl (by omega) _ acc.length (toksC acc) rfl (owns_below hown ((set4_below t hb1).alloc (by have := hb1.size; simp [set4_size] at *; omega) _)) ⟨w1.heap.size, 0, none⟩ 1 1 (tokC t) rfl rfl (news4 w1 _ t) (tokC_one t) (by omega) (by unfold maxLen; omega) (by omega) (by have := Below.size HB; have := hb1.size; simp [set4_size] at *; omega) (w1.heap.size + 1) (by simp) ?_; intro g cp w2 hown2 hgrow hat hlt2; obtain ⟨HB2, hc2, hsz2⟩ := ref_step hown HB hb1 hgrow; clear hgrow hat hlt2))
                go_roundw
                case rel => exact ⟨f, k + t.len, acc ++ [t], hlen2, by go_num, by rw [toksC_snoc]; simpa using hown2, HB2, HE'⟩
                case measure => simp [intOf]; omega
              · have HA : Box (scanAll xs = ([], k, c)) := ⟨HE.fail e0 hlt hr hc0⟩
                have hec : ((c : Int) != 0) = true := by rw [bne_iff_ne]; omega
                have HM : Box (∀ W, Below w.heap.size w W → Calls Tryd.prog 28 #[.slice (some ⟨b, o, none⟩) xs.length cap, .int .i64 k] W fun e w' => ∃ t', e = .returned (.tuple #[tokV t', .int .i64 c]) ∧ Below W.heap.size W w') := ⟨fun W hW => (HN.out W hW).mono (by rintro e w' ⟨t', rfl, h, hb⟩; exact ⟨t', rfl, hb⟩)⟩
                clear hlen hnR hr e0 hc0 hg HN
                obtain ⟨p0, p1, p2, p3, p4⟩ := HF wr (Below.refl _ _)
                clear hs HE hown
                go_wp2_with (first | (go_at_call 23; refine (refBlank _ _).mono ?_; rintro e w' ⟨rfl, rfl⟩) | (go_at_call 24; refine (refLetter _ _).mono ?_; rintro e w' ⟨rfl, rfl⟩) | (go_at_call 26; refine (refDigit _ _).mono ?_; rintro e w' ⟨rfl, rfl⟩) | (go_at_call 28; refine Calls.mono (HM.out _ (hbw.alloc (hbw.size) _)) ?_; rintro e w1 ⟨t', rfl, hb1⟩; obtain ⟨hcc, hff⟩ := bcell hb1; have hsz : wr.heap.size < w1.heap.size := (by have := hb1.size; simp at this; omega); obtain ⟨q0, q1, q2, q3, q4⟩ := HF w1 (bt hb1); unfold tokV))
                refine bodyPost_ret (v := .tuple #[.slice none 0 0, .agg #[.int .i64 k, .int .i64 c]]) (by simp [results, Tryd.results14, go_sem, q0, q1, q4, Nat.ne_of_lt hne, Nat.ne_of_gt hne]) rfl ⟨.slice none 0 0, by rw [HA.out], by rw [HA.out]; exact World.ownsRow_nil _ _ _ _, ?_⟩
                exact ((HBT w1 t' hb1).setCell (Nat.le_refl _) _).setCell (Nat.le_refl _) _
            · rw [if_pos hdg] at hnR
              have HN : Box (∀ W, Below w.heap.size w W → Calls Tryd.prog 27 #[.slice (some ⟨b, o, none⟩) xs.length cap, .int .i64 k] W fun e w' => ∃ t', e = .returned (.tuple #[tokV t', .int .i64 c]) ∧ (c = 0 → t' = t) ∧ Below W.heap.size W w') :=
                ⟨fun W hW => by have h := refNumber_any b o cap xs k W (hs.below hb hW) (by have := hW.size; omega) hl hcap hlt (by rw [hg]; exact hdg); rw [← hnR] at h; exact h⟩
              by_cases hc0 : c = 0
              · subst hc0
                obtain ⟨hlen1, hlen2⟩ := hlen rfl
                have HE' : RefInv xs f (k + t.len) (acc ++ [t]) := HE.step e0 hlt hr hlen1 hlen2
                have HM : Box (∀ W, Below w.heap.size w W → Calls Tryd.prog 27 #[.slice (some ⟨b, o, none⟩) xs.length cap, .int .i64 k] W fun e w' => e = .returned (.tuple #[tokV t, .int .i64 0]) ∧ Below W.heap.size W w') := ⟨fun W hW => (HN.out W hW).mono (by rintro e w' ⟨t', rfl, h, hb⟩; obtain rfl := h rfl; exact ⟨rfl, hb⟩)⟩
                clear hlen hnR hr e0 HF HBT hg HN
                clear hs HE
                go_wp2_with (first | (go_at_call 23; refine (refBlank _ _).mono ?_; rintro e w' ⟨rfl, rfl⟩) | (go_at_call 24; refine (refLetter _ _).mono ?_; rintro e w' ⟨rfl, rfl⟩) | (go_at_call 26; refine (refDigit _ _).mono ?_; rintro e w' ⟨rfl, rfl⟩) | (go_at_call 27; refine Calls.mono (HM.out _ (hbw.alloc (hbw.size) _)) ?_; rintro e w1 ⟨rfl, hb1⟩; obtain ⟨hcc, hff⟩ := bcell hb1; have hsz : wr.heap.size < w1.heap.size := (by have := hb1.size; simp at this; omega); unfold tokV) | (at_builtin; refine wpList_append_lies _ rfl (.tmp 76) (.tmp 78) 31 rfl (w.heap.size + 1) 40 i0 (.agg #[.int .i64 0, .int .i64 0, .int .i64 0, .int .i64 0]) 4 32 Tryd.underlying31 hi hz0 hz1 hz2 rfl (by omega) _ acc.length (toksC acc) rfl (owns_below hown ((set4_below t hb1).alloc (by have := hb1.size; simp [set4_size] at *; omega) _)) ⟨w1.heap.size, 0, none⟩ 1 1 (tokC t) rfl rfl (news4 w1 _ t) (tokC_one t) (by omega) (by unfold maxLen; omega) (by omega) (by have := Below.size HB; have := hb1.size; simp [set4_size] at *; omega) (w1.heap.size + 1) (by simp) ?_; intro g cp w2 hown2 hgrow hat hlt2; obtain ⟨HB2, hc2, hsz2⟩ := ref_step hown HB hb1 hgrow; clear hgrow hat hlt2))
                go_roundw
                case rel => exact ⟨f, k + t.len, acc ++ [t], hlen2, by go_num, by rw [toksC_snoc]; simpa using hown2, HB2, HE'⟩
                case measure => simp [intOf]; omega
              · have HA : Box (scanAll xs = ([], k, c)) := ⟨HE.fail e0 hlt hr hc0⟩
                have hec : ((c : Int) != 0) = true := by rw [bne_iff_ne]; omega
                have HM : Box (∀ W, Below w.heap.size w W → Calls Tryd.prog 27 #[.slice (some ⟨b, o, none⟩) xs.length cap, .int .i64 k] W fun e w' => ∃ t', e = .returned (.tuple #[tokV t', .int .i64 c]) ∧ Below W.heap.size W w') := ⟨fun W hW => (HN.out W hW).mono (by rintro e w' ⟨t', rfl, h, hb⟩; exact ⟨t', rfl, hb⟩)⟩
                clear hlen hnR hr e0 hc0 hg HN
                obtain ⟨p0, p1, p2, p3, p4⟩ := HF wr (Below.refl _ _)
                clear hs HE hown
                go_wp2_with (first | (go_at_call 23; refine (refBlank _ _).mono ?_; rintro e w' ⟨rfl, rfl⟩) | (go_at_call 24; refine (refLetter _ _).mono ?_; rintro e w' ⟨rfl, rfl⟩) | (go_at_call 26; refine (refDigit _ _).mono ?_; rintro e w' ⟨rfl, rfl⟩) | (go_at_call 27; refine Calls.mono (HM.out _ (hbw.alloc (hbw.size) _)) ?_; rintro e w1 ⟨t', rfl, hb1⟩; obtain ⟨hcc, hff⟩ := bcell hb1; have hsz : wr.heap.size < w1.heap.size := (by have := hb1.size; simp at this; omega); obtain ⟨q0, q1, q2, q3, q4⟩ := HF w1 (bt hb1); unfold tokV))
                refine bodyPost_ret (v := .tuple #[.slice none 0 0, .agg #[.int .i64 k, .int .i64 c]]) (by simp [results, Tryd.results14, go_sem, q0, q1, q4, Nat.ne_of_lt hne, Nat.ne_of_gt hne]) rfl ⟨.slice none 0 0, by rw [HA.out], by rw [HA.out]; exact World.ownsRow_nil _ _ _ _, ?_⟩
                exact ((HBT w1 t' hb1).setCell (Nat.le_refl _) _).setCell (Nat.le_refl _) _
          · rw [if_pos hws] at hnR
            have HN : Box (∀ W, Below w.heap.size w W → Calls Tryd.prog 25 #[.slice (some ⟨b, o, none⟩) xs.length cap, .int .i64 k] W fun e w' => ∃ t', e = .returned (.tuple #[tokV t', .int .i64 c]) ∧ (c = 0 → t' = t) ∧ Below W.heap.size W w') :=
              ⟨fun W hW => by have h := refWord_any b o cap xs k W (hs.below hb hW) (by have := hW.size; omega) hl hcap hlt (by rw [hg]; exact hws); rw [← hnR] at h; exact h⟩
            by_cases hc0 : c = 0
            · subst hc0
              obtain ⟨hlen1, hlen2⟩ := hlen rfl
              have HE' : RefInv xs f (k + t.len) (acc ++ [t]) := HE.step e0 hlt hr hlen1 hlen2
              have HM : Box (∀ W, Below w.heap.size w W → Calls Tryd.prog 25 #[.slice (some ⟨b, o, none⟩) xs.length cap, .int .i64 k] W fun e w' => e = .returned (.tuple #[tokV t, .int .i64 0]) ∧ Below W.heap.size W w') := ⟨fun W hW => (HN.out W hW).mono (by rintro e w' ⟨t', rfl, h, hb⟩; obtain rfl := h rfl; exact ⟨rfl, hb⟩)⟩
              clear hlen hnR hr e0 HF HBT hg HN
              clear hs HE
              go_wp2_with (first | (go_at_call 23; refine (refBlank _ _).mono ?_; rintro e w' ⟨rfl, rfl⟩) | (go_at_call 24; refine (refLetter _ _).mono ?_; rintro e w' ⟨rfl, rfl⟩) | (go_at_call 26; refine (refDigit _ _).mono ?_; rintro e w' ⟨rfl, rfl⟩) | (go_at_call 25; refine Calls.mono (HM.out _ (hbw.alloc (hbw.size) _)) ?_; rintro e w1 ⟨rfl, hb1⟩; obtain ⟨hcc, hff⟩ := bcell hb1; have hsz : wr.heap.size < w1.heap.size := (by have := hb1.size; simp at this; omega); unfold tokV) | (at_builtin; refine wpList_append_lies _ rfl (.tmp 76) (.tmp 78) 31 rfl (w.heap.size + 1) 40 i0 (.agg #[.int .i64 0, .int .i64 0, .int .i64 0, .int .i64 0]) 4 32 Tryd.underlying31 hi hz0 hz1 hz2 rfl (by omega) _ acc.length (toksC acc) rfl (owns_below hown ((set4_below t hb1).alloc (by have := hb1.size; simp [set4_size] at *; omega) _)) ⟨w1.heap.size, 0, none⟩ 1 1 (tokC t) rfl rfl (news4 w1 _ t) (tokC_one t) (by omega) (by unfold maxLen; omega) (by omega) (by have := Below.size HB; have := hb1.size; simp [set4_size] at *; omega) (w1.heap.size + 1) (by simp) ?_; intro g cp w2 hown2 hgrow hat hlt2; obtain ⟨HB2, hc2, hsz2⟩ := ref_step hown HB hb1 hgrow; clear hgrow hat hlt2))
              go_roundw
              case rel => exact ⟨f, k + t.len, acc ++ [t], hlen2, by go_num, by rw [toksC_snoc]; simpa using hown2, HB2, HE'⟩
              case measure => simp [intOf]; omega
            · have HA : Box (scanAll xs = ([], k, c)) := ⟨HE.fail e0 hlt hr hc0⟩
              have hec : ((c : Int) != 0) = true := by rw [bne_iff_ne]; omega
              have HM : Box (∀ W, Below w.heap.size w W → Calls Tryd.prog 25 #[.slice (some ⟨b, o, none⟩) xs.length cap, .int .i64 k] W fun e w' => ∃ t', e = .returned (.tuple #[tokV t', .int .i64 c]) ∧ Below W.heap.size W w') := ⟨fun W hW => (HN.out W hW).mono (by rintro e w' ⟨t', rfl, h, hb⟩; exact ⟨t', rfl, hb⟩)⟩
              clear hlen hnR hr e0 hc0 hg HN
              obtain ⟨p0, p1, p2, p3, p4⟩ := HF wr (Below.refl _ _)
              clear hs HE hown
              go_wp2_with (first | (go_at_call 23; refine (refBlank _ _).mono ?_; rintro e w' ⟨rfl, rfl⟩) | (go_at_call 24; refine (refLetter _ _).mono ?_; rintro e w' ⟨rfl, rfl⟩) | (go_at_call 26; refine (refDigit _ _).mono ?_; rintro e w' ⟨rfl, rfl⟩) | (go_at_call 25; refine Calls.mono (HM.out _ (hbw.alloc (hbw.size) _)) ?_; rintro e w1 ⟨t', rfl, hb1⟩; obtain ⟨hcc, hff⟩ := bcell hb1; have hsz : wr.heap.size < w1.heap.size := (by have := hb1.size; simp at this; omega); obtain ⟨q0, q1, q2, q3, q4⟩ := HF w1 (bt hb1); unfold tokV))
              refine bodyPost_ret (v := .tuple #[.slice none 0 0, .agg #[.int .i64 k, .int .i64 c]]) (by simp [results, Tryd.results14, go_sem, q0, q1, q4, Nat.ne_of_lt hne, Nat.ne_of_gt hne]) rfl ⟨.slice none 0 0, by rw [HA.out], by rw [HA.out]; exact World.ownsRow_nil _ _ _ _, ?_⟩
              exact ((HBT w1 t' hb1).setCell (Nat.le_refl _) _).setCell (Nat.le_refl _) _
        · have hgt := spanTo_rem_gt xs k hlt hrm
          have hsp := (spanTo_le remI xs k (by omega)).2
          have HE' := HE.on (skipTo_rem xs k hlt hbl hrm) (by omega)
          obtain ⟨E, hE⟩ : ∃ E, E = spanTo remI xs k := ⟨_, rfl⟩
          rw [← hE] at HE' hgt hsp
          have HS : Box (E = spanTo remI xs k) := ⟨hE⟩
          clear hE
          clear HE hg
          go_wp2_with (first | (go_at_call 23; refine (refBlank _ _).mono ?_; rintro e w' ⟨rfl, rfl⟩) | (go_at_call 24; refine (refLetter _ _).mono ?_; rintro e w' ⟨rfl, rfl⟩) | (go_at_call 26; refine (refDigit _ _).mono ?_; rintro e w' ⟨rfl, rfl⟩))
          go_loop [5] (fun i => ∃ j : Nat, k ≤ j ∧ j ≤ xs.length ∧ i = .int .i64 j ∧ Box (E = spanTo remI xs j)) (fun i => xs.length - (intOf i).toNat)
          case atStart => exact ⟨k, Nat.le_refl _, by omega, rfl, HS⟩
          case round =>
            obtain ⟨j, hkj, hj, rfl, H⟩ := hrel
            by_cases hltj : j < xs.length
            · have hcj := (hs.below hb hbw) j hltj
              cases hrj : remI (xs[j].toNat : Int)
              · have hEj : E = j := H.out.trans (spanTo_no _ _ _ hltj hrj)
                subst hEj
                have hq : ((xs[E].toNat : Int) != 10) = false := hrj
                clear H HS hrj
                go_wp2
                go_roundw
                case rel => exact ⟨f, E, acc, hj, rfl, hown, HB, HE'⟩
                case measure => simp [intOf]; omega
              · have HN : Box (E = spanTo remI xs (j + 1)) := ⟨H.out.trans (spanTo_yes _ _ _ hltj hrj)⟩
                have hq : ((xs[j].toNat : Int) != 10) = true := hrj
                clear H HS hrj
                go_wp2
                go_round
                case rel => exact ⟨j + 1, by omega, by omega, by go_num, HN⟩
                case measure => simp [intOf]; omega
            · have hEj : E = j := H.out.trans (spanTo_end _ _ _ (by omega))
              subst hEj
              clear H HS
              go_wp2
              go_roundw
              case rel => exact ⟨f, E, acc, hj, rfl, hown, HB, HE'⟩
              case measure => simp [intOf]; omega
      · have HE' := HE.on (skipTo_blank xs k hlt hbl) (by omega)
        clear HE hg
        go_wp2_with (first | (go_at_call 23; refine (refBlank _ _).mono ?_; rintro e w' ⟨rfl, rfl⟩) | (go_at_call 24; refine (refLetter _ _).mono ?_; rintro e w' ⟨rfl, rfl⟩) | (go_at_call 26; refine (refDigit _ _).mono ?_; rintro e w' ⟨rfl, rfl⟩))
        go_roundw
        case rel => exact ⟨f, k + 1, acc, hlt, by go_num, hown, HB, HE'⟩
        case measure => simp [intOf]; omega
    · obtain ⟨f, rfl⟩ : ∃ f', f = f' + 1 := ⟨f - 1, by have := HE.fuel; omega⟩
      have HA : Box (scanAll xs = (acc, 0, 0)) := ⟨HE.done hlt⟩
      have hwr : Below wr.heap.size wr wr := Below.refl _ _
      obtain ⟨p0, p1, p2, p3, p4⟩ := fault_cells HB wr hwr
      clear HE hs hwr
      go_wp2
      refine bodyPost_ret (v := .tuple #[u4, .agg #[.int .i64 0, .int .i64 0]]) (by simp [results, Tryd.results14, go_sem, p0, p1]) rfl ⟨u4, by rw [HA.out]; rfl, by rw [HA.out]; exact owns_fault hown, ?_⟩
      exact (HB.below.setCell (Nat.le_refl _) _).setCell (Nat.le_refl _) _

set_option maxHeartbeats 400000 in
theorem refScan_long (a : Option Addr) (n cap : Nat) (w : World) (hn : 65536 < n) (hm : n ≤ maxLen) :
    Calls Tryd.prog 14 #[.slice a n cap] w fun e w' => e = .returned (.tuple #[.slice none 0 0, .agg #[.int .i64 65536, .int .i64 10]]) ∧ Below w.heap.size w w' := by
  unfold maxLen at hm
  have h1 : (65536 : Int) < (n : Int) := by omega
  go_enter Tryd.func14, Tryd.ntmps14
  go_wp2
  refine bodyPost_ret (v := .tuple #[.slice none 0 0, .agg #[.int .i64 65536, .int .i64 10]]) (by simp [results, Tryd.results14, go_sem]) rfl ⟨rfl, ?_⟩
  exact (Below.refl _ _).alloc (Nat.le_refl _) _

set_option maxHeartbeats 400000 in
theorem refScan_none (a : Option Addr) (cap : Nat) (w : World) :
    Calls Tryd.prog 14 #[.slice a 0 cap] w fun e w' => ∃ v, e = .returned (.tuple #[v, .agg #[.int .i64 0, .int .i64 0]]) ∧ w'.ownsRow w.heap.size 40 4 v 0 [] ∧ Below w.heap.size w w' := by
  go_enter Tryd.func14, Tryd.ntmps14
  go_wp2
  go_loopw [4, 5] (fun v i wr => v = .slice (some ⟨w.heap.size + 1, 0, none⟩) 0 0 ∧ i = .int .i64 0 ∧ wr = (w.alloc (.cells #[.int .i64 0, .int .i64 0] 34)).alloc (.cells #[] 40)) (fun _ _ _ => 0)
  case atStart => exact ⟨rfl, rfl, rfl⟩
  case round =>
    obtain ⟨rfl, rfl, rfl⟩ := hrel
    go_wp2
    refine bodyPost_ret (v := .tuple #[.slice (some ⟨w.heap.size + 1, 0, none⟩) 0 0, .agg #[.int .i64 0, .int .i64 0]]) (by simp [results, Tryd.results14, go_sem]) rfl ⟨_, rfl, ?_, ?_⟩
    · have h := World.ownsRow_made (base := w.heap.size + 1) (e := 40) (size := 4) (w.alloc (.cells #[.int .i64 0, .int .i64 0] 34)) #[] 0 (by simp) (Nat.zero_le _) rfl
      simp only [World.size_alloc] at h
      exact owns_base h (by omega)
    · exact ((Below.refl _ _).alloc (Nat.le_refl _) _).alloc (by simp) _

/-- **the reference's Scan**, whatever bytes it is given -/
theorem refScan_any (a : Option Addr) (cap : Nat) (xs : List UInt8) (w : World) (hs : IsSrc w a cap xs) :
    Calls Tryd.prog 14 #[.slice a xs.length cap] w fun e w' => ∃ v, e = .returned (.tuple #[v, .agg #[.int .i64 (scanAll xs).2.1, .int .i64 (scanAll xs).2.2]]) ∧ w'.ownsRow w.heap.size 40 4 v (scanAll xs).1.length (toksC (scanAll xs).1) ∧ Below w.heap.size w w' := by
  by_cases h1 : 65536 < xs.length
  · have hA : scanAll xs = ([], 65536, 10) := by unfold scanAll; rw [if_pos h1]
    rw [hA]
    refine (refScan_long a xs.length cap w h1 hs.max_).mono ?_
    rintro e w' ⟨rfl, hb⟩
    exact ⟨.slice none 0 0, rfl, World.ownsRow_nil _ _ _ _, hb⟩
  · by_cases h0 : 0 < xs.length
    · obtain ⟨b, o, rfl, hb, hc⟩ := hs.at_ h0
      exact refScan_some b o cap xs w hc hb (by omega) hs.cap_
    · have hx : xs = [] := List.eq_nil_of_length_eq_zero (by omega)
      subst hx
      have hA : scanAll [] = ([], 0, 0) := rfl
      rw [hA]
      exact refScan_none a cap w
end Go.Proofs.YtooondgaeoobkaaDoor
