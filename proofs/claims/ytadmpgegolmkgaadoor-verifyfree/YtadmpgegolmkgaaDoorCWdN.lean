import Derived.Test.YtadmpgegolmkgaaDoorCWdM
import Derived.WalkKit
import Derived.Laws.BitsLemmas
import Derived.DeepKeys4
import Derived.WideKeyEntry
namespace Go.Proofs.YtadmpgegolmkgaaDoor
open Go.RowKit
set_option linter.unusedVariables false
set_option linter.unusedSimpArgs false

theorem infoDue : (Tryd.prog.info? 115).map (fun i => (i.zero, i.size, i.bytes)) = some (some (.slice none 0 0), 1, 24) := by kernel_rfl
theorem infoWd : (Tryd.prog.info? 63).map (fun i => (i.zero, i.size, i.bytes)) = some (some (.int .u64 0), 1, 8) := by kernel_rfl
theorem make_words (w : World) (l m : Nat) (hm : m ≤ 2147483648) : (Instr.makeSlice 115 (.int .i64 m) (.int .i64 m)).run Tryd.prog w = .ok (.slice (some ⟨w.heap.size, 0, none⟩) m m) (w.alloc (.cells (wrC (fun _ => false) l m) 63)) := by
  obtain ⟨i0, hi, hz0, hz1, hz2⟩ := info_parts infoWd
  have := run_make (P := Tryd.prog) w 115 63 i0 (.int .u64 0) Tryd.underlying115 hi hz0 .i64 .i64 (m : Int) (m : Int) (by omega) (by omega) (by rw [hz2]; omega) (by omega)
  rw [hz1, Nat.mul_one] at this
  rw [← wrC_zero]
  simpa [Value.cells] using this
/-- the rows of words, as cells -/
def drC (eb : Nat → Nat) (many l : Nat) : List Value := (List.range l).map fun i => .slice (some ⟨eb i, 0, none⟩) (szW many i) (szW many i)
theorem drC_add (eb : Nat → Nat) (many l x : Nat) : drC (fun i => if i = l then x else eb i) many (l + 1) = drC eb many l ++ [.slice (some ⟨x, 0, none⟩) (szW many l) (szW many l)] := by
  unfold drC
  rw [List.range_succ, List.map_append]
  have e : (List.range l).map (fun i => (Value.slice (some ⟨if i = l then x else eb i, 0, none⟩) (szW many i) (szW many i))) = (List.range l).map (fun i => (Value.slice (some ⟨eb i, 0, none⟩) (szW many i) (szW many i))) := by
    refine List.map_congr_left fun i hi => ?_
    rw [List.mem_range] at hi
    rw [if_neg (by omega)]
  rw [e]
  simp
/-- newDue under way: l rows are laid -/
structure DuN (w W : World) (H : Nat) (many l : Nat) (v : Value) (eb : Nat → Nat) : Prop where
  bel : Below H w W
  row : W.ownsRow H 115 1 v l (drC eb many l)
  wrd : ∀ i, i < l → W.heap[eb i]? = some (.cells (wrC (fun _ => false) i (szW many i)) 63 (0, 0))
  inj : ∀ i j, i < l → j < l → eb i = eb j → i = j
  hi : ∀ i, i < l → H ≤ eb i
/-- the worlds of a round -/
theorem DuN.add {w W : World} {H many l : Nat} {v : Value} {eb : Nat → Nat} (h : DuN w W H many l v eb) (hw : w.heap.size = H) (hl : l ≤ 64) (m : Nat) (hm : m = szW many l) :
    ∃ g c W3 eb', (∀ ty, (Builtin.append_ #[69, 69] ty #[v, .slice (some ⟨W.heap.size + 1, 0, none⟩) 1 1]).run Tryd.prog ((W.alloc (.cells (wrC (fun _ => false) l m) 63)).alloc (.cells #[.slice (some ⟨W.heap.size, 0, none⟩) m m] 115)) = .ok (.slice (some ⟨g, 0, none⟩) (l + 1) c) W3) ∧ DuN w W3 H many (l + 1) (.slice (some ⟨g, 0, none⟩) (l + 1) c) eb' ∧ l + 1 ≤ c := by
  subst hm
  have hz : H ≤ W.heap.size := by rw [← hw]; exact h.bel.size
  obtain ⟨i0, hi0, iz0, iz1, iz2⟩ := info_parts infoDue
  obtain ⟨W1, hW1⟩ : ∃ W1, W.alloc (.cells (wrC (fun _ => false) l (szW many l)) 63) = W1 := ⟨_, rfl⟩
  have hs1 : W1.heap.size = W.heap.size + 1 := by rw [← hW1]; simp
  have b1 : Below W.heap.size W W1 := by rw [← hW1]; exact below1 _ _
  have he : W1.heap[W.heap.size]? = some (.cells (wrC (fun _ => false) l (szW many l)) 63 (0, 0)) := by rw [← hW1]; exact heap_newH _ _ _ rfl
  obtain ⟨g, c, W3, r, o, gr, hc, _⟩ := app1 Tryd.underlying69 hi0 iz0 iz1 iz2 rfl (by decide) W1 H v l _ (own_new h.row b1) #[.slice (some ⟨W.heap.size, 0, none⟩) (szW many l) (szW many l)] rfl (by simp [Value.oneCell']) (by unfold maxLen; omega) (by omega) (by omega)
  rw [hs1] at r
  have ob : ∀ k, v.ownBlock = some k → H ≤ k := fun k hk => (owns_block h.row hk).1
  have kk := owns_kind (own_new h.row b1)
  have hne : ∀ k, v.ownBlock = some k → ∀ i, W1.heap[i]? = some (.cells (wrC (fun _ => false) l (szW many l)) 63 (0, 0)) ∨ (∃ cs, W1.heap[i]? = some (.cells cs 63 (0, 0))) → i ≠ k := fun k hk i hi e => by
    subst e
    obtain ⟨c1, f1, q⟩ := kk i hk
    rcases hi with hi | ⟨cs, hi⟩
    · rw [hi] at q; injection q with q; injection q with _ q; exact absurd q (by decide)
    · rw [hi] at q; injection q with q; injection q with _ q; exact absurd q (by decide)
  refine ⟨g, c, W3, (fun i => if i = l then W.heap.size else eb i), by rw [hW1]; exact r, ⟨h.bel.trans ((b1.mono hz).trans ((Below.refl _ _).grown gr (by omega) ob)), ?_, fun i hi => ?_, fun i j hi hj e => ?_, fun i hi => ?_⟩, hc⟩
  · have e := drC_add eb many l W.heap.size
    rw [e]
    exact o
  · by_cases e : i = l
    · subst e
      simp only [if_true]
      exact grown_at gr he fun q => hne _ q _ (.inl he) rfl
    · simp only [if_neg e]
      have h1 := (b1.block _ (heap_lt (h.wrd i (by omega)))).trans (h.wrd i (by omega))
      exact grown_at gr h1 fun q => hne _ q _ (.inr ⟨_, h1⟩) rfl
  · have hlt : ∀ k, k < l → eb k < W.heap.size := fun k hk => heap_lt (h.wrd k hk)
    by_cases e1 : i = l
    · by_cases e2 : j = l
      · omega
      · simp only [if_pos e1, if_neg e2] at e
        have := hlt j (by omega)
        omega
    · by_cases e2 : j = l
      · simp only [if_neg e1, if_pos e2] at e
        have := hlt i (by omega)
        omega
      · simp only [if_neg e1, if_neg e2] at e
        exact h.inj i j (by omega) (by omega) e
  · by_cases e : i = l
    · simp only [if_pos e]; exact hz
    · simp only [if_neg e]; exact h.hi i (by omega)
theorem DuN.done {w W : World} {H many l g c : Nat} {eb : Nat → Nat} (h : DuN w W H many l (.slice (some ⟨g, 0, none⟩) l c) eb) (hl : 0 < l) (hl2 : l ≤ 33) (hm : many ≤ 2147483648) : DuE W g c eb l many (fun _ _ => false) ∧ H ≤ g := by
  have hb := owns_block h.row (g := g) rfl
  refine ⟨⟨fun i hi => ?_, h.wrd, h.inj, fun i hi e => ?_, ?_, hb.2, by omega, hm⟩, hb.1⟩
  · exact owns_cellj h.row (by unfold drC; rw [List.getElem?_map, List.getElem?_range hi]; rfl)
  · obtain ⟨c1, f1, q⟩ := owns_kind h.row g rfl
    have q2 := h.wrd i hi
    rw [e, q] at q2
    injection q2 with q2
    injection q2 with _ q2
    exact absurd q2 (by decide)
  · rcases h.row.2 with ⟨q, _⟩ | ⟨g', cap, cur, q, _, _, q3, _⟩
    · cases q
    · simp only [Value.slice.injEq] at q
      obtain ⟨_, _, rfl⟩ := q
      exact q3
set_option maxRecDepth 100000 in
set_option maxHeartbeats 1000000 in
theorem newDue_all (w : World) (many : Nat) (h0 : 0 < many) (hm : many ≤ 2147483648) :
    Calls Tryd.prog 39 #[.int .i64 (many : Int)] w fun e w' => ∃ db dc eb L, e = .returned (.slice (some ⟨db, 0, none⟩) L dc) ∧ Bx (DuE w' db dc eb L many (fun _ _ => false) ∧ Below w.heap.size w w' ∧ w.heap.size ≤ db ∧ (∀ l, l < L → w.heap.size ≤ eb l) ∧ szW many (L - 1) = 1 ∧ 0 < L) := by
  obtain ⟨H, hH⟩ : ∃ H, w.heap.size = H := ⟨_, rfl⟩
  have H0 : Bx (∃ eb, DuN w w H many 0 (.slice none 0 0) eb) := ⟨fun _ => 0, ⟨Below.refl _ _, ⟨rfl, .inl ⟨rfl, rfl⟩⟩, fun i hi => by omega, fun i j hi => by omega, fun i hi => by omega⟩⟩
  go_enter Tryd.func39, Tryd.ntmps39
  go_wp2
  go_loopg [0, 3] (many + 2) (fun g v0 v3 wr => ∃ (l m : Nat) (x3 : Value), g = (if l = 0 then many + 2 else m + 1) ∧ m = (if l = 0 then many else szW many (l - 1)) ∧ l ≤ 33 ∧ v0 = .int .i64 (m : Int) ∧ x3 = v3 ∧ Bx (∃ eb, DuN w wr H many l x3 eb))
  case atStart => exact ⟨0, many, _, rfl, rfl, by omega, rfl, rfl, H0⟩
  case round =>
    obtain ⟨l, m, x3, hg, hml, hl, rfl, rfl, HI⟩ := hrel
    clear H0
    obtain ⟨eb, hD⟩ := HI.out
    obtain ⟨a3, c3, e3⟩ := owns_slice hD.row
    subst e3
    have hmm : m ≤ many := by rw [hml]; split; exact Nat.le_refl _; exact szW_le _
    clear HI
    by_cases hc : l = 0 ∨ 1 < m
    · obtain ⟨m', hm'⟩ : ∃ m', m' = szW many l := ⟨_, rfl⟩
      have hdv : (m + 63) / 64 = m' := by
        rw [hm', hml]
        cases l with
        | zero => rfl
        | succ k => simp only [Nat.succ_ne_zero, if_false, Nat.add_sub_cancel]; rfl
      have hm2 : m' ≤ many := by rw [hm']; exact szW_le _
      have hl33 : l + 1 ≤ 33 := by
        rcases hc with hc | hc
        · omega
        · by_cases h00 : l = 0
          · omega
          · rw [if_neg h00] at hml
            have hs := szW_small (many := many) (l - 1)
            rw [← hml] at hs
            have h1 : 1 ≤ many / 2 ^ (l - 1) := by omega
            have h2 : 2 ^ (l - 1) ≤ many := by
              have := Nat.div_mul_le_self many (2 ^ (l - 1))
              exact Nat.le_trans (Nat.le_mul_of_pos_left _ h1) this
            have h3 : l - 1 < 32 := Nat.lt_of_not_le fun q => by
              have : 2 ^ 32 ≤ 2 ^ (l - 1) := Nat.pow_le_pow_right (by decide) q
              omega
            omega
      obtain ⟨g, cc, W3, eb', r, hN, hcap⟩ := hD.add hH (by omega) m' hm'
      have hmk := make_words wr l m' (by omega)
      have HN : Bx (∃ eb, DuN w W3 H many (l + 1) (.slice (some ⟨g, 0, none⟩) (l + 1) cc) eb) := ⟨eb', hN⟩
      have hme : gk > m' + 1 := by
        rw [hg]
        split
        · rename_i h00
          rw [hml, if_pos h00] at hdv
          omega
        · rename_i h00
          rcases hc with hc | hc
          · exact absurd hc h00
          · omega
      have hdI : ((m : Int) + 63) / 64 = (m' : Int) := by omega
      have HML : Bx (m' = szW many l) := ⟨hm'⟩
      have hm64 : m' ≤ 2147483648 := by omega
      have hm65 : m ≤ 2147483648 := by omega
      clear hD hN hdv hml hg hm'
      by_cases h00 : l = 0
      · subst h00
        go_wp2_with (first
          | (simp only [hdI])
          | (at_builtin; refine wpList_appI rfl (.tmp 14) (.tmp 17) 69 rfl rfl rfl r ?_))
        go_roundg (m' + 1)
        case measure => omega
        case rel => exact ⟨0 + 1, m', _, by simp, by rw [HML.out]; rfl, hl33, rfl, rfl, HN⟩
      · have hlb : ((l : Int) == 0) = false := by simp; omega
        have hm1 : (1 : Int) < (m : Int) := by omega
        go_wp2_with (first
          | (simp only [hdI])
          | (at_builtin; refine wpList_appI rfl (.tmp 14) (.tmp 17) 69 rfl rfl rfl r ?_))
        go_roundg (m' + 1)
        case measure => omega
        case rel => exact ⟨l + 1, m', _, by simp, by rw [HML.out]; rfl, hl33, rfl, rfl, HN⟩
    · have h00 : l ≠ 0 := fun e => hc (.inl e)
      have hm1 : ¬ 1 < m := fun e => hc (.inr e)
      rw [if_neg h00] at hml
      have hp := szW_pos h0 (l - 1)
      have hone : szW many (l - 1) = 1 := by omega
      have hb : ∃ g, a3 = some ⟨g, 0, none⟩ := by
        rcases hD.row.2 with ⟨_, q⟩ | ⟨g, cap, cur, q, _⟩
        · exact absurd q h00
        · simp only [Value.slice.injEq] at q; exact ⟨g, q.1⟩
      obtain ⟨g, rfl⟩ := hb
      obtain ⟨k1, k2⟩ := hD.done (by omega) hl hm
      have HF : Bx (DuE wr g c3 eb l many (fun _ _ => false) ∧ Below H w wr ∧ H ≤ g ∧ (∀ i, i < l → H ≤ eb i) ∧ szW many (l - 1) = 1 ∧ 0 < l) := ⟨k1, hD.bel, k2, hD.hi, hone, by omega⟩
      have hlb : ((l : Int) == 0) = false := by simp; omega
      have hm1I : ¬ (1 : Int) < (m : Int) := by omega
      clear hD k1 k2 hml hg hp hone hc
      go_wp2
      go_ret
      exact ⟨g, c3, eb, l, rfl, HF⟩
end Go.Proofs.YtadmpgegolmkgaaDoor
namespace Go.Proofs.YtadmpgegolmkgaaDoor
set_option linter.unusedVariables false
set_option linter.unusedSimpArgs false

/-! ### sets of slots: pairs of sets, each with one number -/
abbrev Prs := List (Nat × Nat)
def pz : Nat × Nat := (0, 0)
/-- the number of a pair -/
def numP (P : Prs) (p : Nat × Nat) : Prs × Nat := if p ∈ P then (P, P.idxOf p) else (P ++ [p], P.length)
structure PrOk (P : Prs) : Prop where
  nd : P.Nodup
  z : P[0]? = some pz
theorem numP_spec {P : Prs} (h : PrOk P) (p : Nat × Nat) : P <+: (numP P p).1 ∧ PrOk (numP P p).1 ∧ (numP P p).1[(numP P p).2]? = some p ∧ (numP P p).1.length ≤ P.length + 1 := by
  unfold numP
  split
  · rename_i hm
    refine ⟨List.prefix_refl _, h, ?_, Nat.le_succ _⟩
    show P[P.idxOf p]? = _
    rw [List.getElem?_eq_getElem (List.idxOf_lt_length_iff.2 hm), List.getElem_idxOf]
  · rename_i hm
    refine ⟨List.prefix_append _ _, ⟨?_, ?_⟩, by simp, by simp⟩
    · rw [List.nodup_append]
      refine ⟨h.nd, by simp, fun a ha b hb e => ?_⟩
      simp at hb
      subst hb
      subst e
      exact hm ha
    · have := h.z
      have hl := (List.getElem?_eq_some_iff.1 this).1
      show (P ++ [p])[0]? = _
      rw [List.getElem?_append_left hl]
      exact this
theorem prefix_get {P Q : Prs} (h : P <+: Q) {i : Nat} {p : Nat × Nat} (hp : P[i]? = some p) : Q[i]? = some p := by
  obtain ⟨r, rfl⟩ := h
  rw [List.getElem?_append_left (List.getElem?_eq_some_iff.1 hp).1]
  exact hp
def atP (P : Prs) (s : Nat) : Nat × Nat := P[s]?.getD pz
theorem atP_eq {P : Prs} {s : Nat} {p : Nat × Nat} (h : P[s]? = some p) : atP P s = p := by unfold atP; rw [h]; rfl
/-- a number is one of a level -/
def vsP : Nat → Prs → Nat → Prop
  | 0, P, s => s < 18446744073709551616
  | L + 1, P, s => (∃ p, P[s]? = some p) ∧ vsP L P (atP P s).1 ∧ vsP L P (atP P s).2
def den : Nat → Prs → Nat → Nat → Bool
  | 0, P, s, n => s.testBit (n % 64)
  | L + 1, P, s, n => den L P (if (n / 64).testBit L then (atP P s).2 else (atP P s).1) n
theorem vs_mono {P Q : Prs} (h : P <+: Q) : ∀ {L s : Nat}, vsP L P s → vsP L Q s ∧ ∀ n, den L Q s n = den L P s n
  | 0, s, hs => ⟨hs, fun _ => rfl⟩
  | L + 1, s, ⟨⟨p, hp⟩, h1, h2⟩ => by
    have hq := prefix_get h hp
    have e : atP Q s = atP P s := by rw [atP_eq hq, atP_eq hp]
    obtain ⟨a1, a2⟩ := vs_mono h h1
    obtain ⟨b1, b2⟩ := vs_mono h h2
    refine ⟨⟨⟨p, hq⟩, by rw [e]; exact a1, by rw [e]; exact b1⟩, fun n => ?_⟩
    rw [den, den, e]
    split
    · exact b2 n
    · exact a2 n
theorem vs_zero {P : Prs} (h : PrOk P) : ∀ L, vsP L P 0 ∧ ∀ n, den L P 0 n = false
  | 0 => ⟨(by decide : (0 : Nat) < 18446744073709551616), fun n => Nat.zero_testBit _⟩
  | L + 1 => by
    obtain ⟨h1, h2⟩ := vs_zero h L
    have e : atP P 0 = pz := atP_eq h.z
    refine ⟨⟨⟨_, h.z⟩, by rw [e]; exact h1, by rw [e]; exact h1⟩, fun n => ?_⟩
    rw [den, e]
    split <;> exact h2 n
/-- a pair of two of a level is one of the next -/
theorem num_next {P : Prs} (h : PrOk P) {L a b : Nat} (ha : vsP L P a) (hb : vsP L P b) : vsP (L + 1) (numP P (a, b)).1 (numP P (a, b)).2 ∧ ∀ n, den (L + 1) (numP P (a, b)).1 (numP P (a, b)).2 n = den L P (if (n / 64).testBit L then b else a) n := by
  obtain ⟨h1, h2, h3, _⟩ := numP_spec h (a, b)
  have e := atP_eq h3
  obtain ⟨a1, a2⟩ := vs_mono h1 ha
  obtain ⟨b1, b2⟩ := vs_mono h1 hb
  refine ⟨⟨⟨_, h3⟩, by rw [e]; exact a1, by rw [e]; exact b1⟩, fun n => ?_⟩
  rw [den, e]
  split
  · exact b2 n
  · exact a2 n
/-- a slot's bit becomes another one -/
def chgP : Nat → Prs → Nat → Nat → Nat → Prs × Nat
  | 0, P, s, slot, to => (P, (s &&& (18446744073709551615 - 2 ^ (slot % 64))) ||| to)
  | L + 1, P, s, slot, to => if (slot / 64).testBit L then
      numP (chgP L P (atP P s).2 slot to).1 ((atP P s).1, (chgP L P (atP P s).2 slot to).2)
    else numP (chgP L P (atP P s).1 slot to).1 ((chgP L P (atP P s).1 slot to).2, (atP P s).2)
theorem low_step (n L : Nat) : n % 2 ^ (6 + (L + 1)) = n % 2 ^ (6 + L) + 2 ^ (6 + L) * ((n / 64).testBit L).toNat := by
  have e : (n / 64).testBit L = n.testBit (6 + L) := by
    have := Nat.testBit_div_two_pow n (i := L) (n := 6)
    rw [show (2 : Nat) ^ 6 = 64 from rfl] at this
    rw [this, Nat.add_comm]
  rw [e, show 6 + (L + 1) = (6 + L) + 1 by omega, Nat.pow_succ, Nat.mod_mul, Nat.testBit_eq_decide_div_mod_eq]
  congr 2
  rcases Nat.mod_two_eq_zero_or_one (n / 2 ^ (6 + L)) with h | h <;> rw [h] <;> rfl
theorem bit_same {n m L : Nat} (h : n % 2 ^ (6 + (L + 1)) = m % 2 ^ (6 + (L + 1))) : n % 2 ^ (6 + L) = m % 2 ^ (6 + L) ∧ (n / 64).testBit L = (m / 64).testBit L := by
  rw [low_step, low_step] at h
  have h1 := Nat.mod_lt n (Nat.two_pow_pos (6 + L))
  have h2 := Nat.mod_lt m (Nat.two_pow_pos (6 + L))
  cases hn : (n / 64).testBit L <;> cases hm : (m / 64).testBit L <;> rw [hn, hm] at h <;> simp at h <;> simp <;> omega
theorem bit_diff {n m L : Nat} (h : n % 2 ^ (6 + (L + 1)) ≠ m % 2 ^ (6 + (L + 1))) (hb : (n / 64).testBit L = (m / 64).testBit L) : n % 2 ^ (6 + L) ≠ m % 2 ^ (6 + L) := fun e => h (by rw [low_step, low_step, e, hb])
theorem or_bit {s b k : Nat} {to : Nat} (hb : b < 64) (ht : to = 0 ∨ to = 2 ^ b) (hk : k < 64) : ((s &&& (18446744073709551615 - 2 ^ b)) ||| to).testBit k = if k = b then decide (to ≠ 0) else s.testBit k := by
  have e1 : 18446744073709551615 - 2 ^ b = 2 ^ 64 - (2 ^ b + 1) := by omega
  rw [Nat.testBit_or, Nat.testBit_and, e1, Nat.testBit_two_pow_sub_succ (Nat.pow_lt_pow_right (by decide) hb), decide_eq_true hk, Bool.true_and, Nat.testBit_two_pow]
  by_cases e : k = b
  · subst e
    rw [if_pos rfl]
    rcases ht with rfl | rfl
    · simp
    · have : 2 ^ k ≠ 0 := Nat.ne_of_gt (Nat.two_pow_pos k)
      simp [this]
  · have e2 : decide (b = k) = false := decide_eq_false fun q => e q.symm
    rw [if_neg e, e2]
    rcases ht with rfl | rfl
    · simp
    · rw [Nat.testBit_two_pow, e2]; simp
theorem chg_spec {slot to : Nat} (ht : to = 0 ∨ to = 2 ^ (slot % 64)) : ∀ (L : Nat) {P : Prs} {s : Nat}, PrOk P → vsP L P s → P <+: (chgP L P s slot to).1 ∧ PrOk (chgP L P s slot to).1 ∧ vsP L (chgP L P s slot to).1 (chgP L P s slot to).2 ∧ (∀ n, den L (chgP L P s slot to).1 (chgP L P s slot to).2 n = if n % 2 ^ (6 + L) = slot % 2 ^ (6 + L) then decide (to ≠ 0) else den L P s n) ∧ (chgP L P s slot to).1.length ≤ P.length + L
  | 0, P, s, h, hs => by
    have hb : slot % 64 < 64 := Nat.mod_lt _ (by decide)
    refine ⟨List.prefix_refl _, h, ?_, fun n => ?_, by simp [chgP]⟩
    · show (s &&& _) ||| to < 2 ^ 64
      refine Nat.or_lt_two_pow (Nat.lt_of_le_of_lt Nat.and_le_left hs) ?_
      rcases ht with rfl | rfl
      · decide
      · exact Nat.pow_lt_pow_right (by decide) hb
    · have := or_bit (s := s) hb ht (Nat.mod_lt n (by decide : 0 < 64))
      exact this
  | L + 1, P, s, h, ⟨⟨p, hp⟩, h1, h2⟩ => by
    rw [chgP]
    cases hbit : (slot / 64).testBit L with
    | true =>
      simp only [if_true]
      obtain ⟨g1, g2, g3, g4, g5⟩ := chg_spec ht L h h2
      obtain ⟨m1, m2⟩ := vs_mono g1 h1
      obtain ⟨q1, q2⟩ := num_next g2 m1 g3
      obtain ⟨r1, r2, _, r4⟩ := numP_spec g2 ((atP P s).1, (chgP L P (atP P s).2 slot to).2)
      refine ⟨List.IsPrefix.trans g1 r1, r2, q1, fun n => ?_, by omega⟩
      rw [q2, den]
      cases hn : (n / 64).testBit L with
      | true =>
        simp only [if_true]
        rw [g4]
        by_cases e : n % 2 ^ (6 + (L + 1)) = slot % 2 ^ (6 + (L + 1))
        · rw [if_pos e, if_pos (bit_same e).1]
        · rw [if_neg e, if_neg (bit_diff e (by rw [hn, hbit]))]
      | false =>
        simp only [Bool.false_eq_true, if_false]
        rw [m2]
        rw [if_neg fun e => by have := (bit_same e).2; rw [hn, hbit] at this; cases this]
    | false =>
      simp only [Bool.false_eq_true, if_false]
      obtain ⟨g1, g2, g3, g4, g5⟩ := chg_spec ht L h h1
      obtain ⟨m1, m2⟩ := vs_mono g1 h2
      obtain ⟨q1, q2⟩ := num_next g2 g3 m1
      obtain ⟨r1, r2, _, r4⟩ := numP_spec g2 ((chgP L P (atP P s).1 slot to).2, (atP P s).2)
      refine ⟨List.IsPrefix.trans g1 r1, r2, q1, fun n => ?_, by omega⟩
      rw [q2, den]
      cases hn : (n / 64).testBit L with
      | false =>
        simp only [Bool.false_eq_true, if_false]
        rw [g4]
        by_cases e : n % 2 ^ (6 + (L + 1)) = slot % 2 ^ (6 + (L + 1))
        · rw [if_pos e, if_pos (bit_same e).1]
        · rw [if_neg e, if_neg (bit_diff e (by rw [hn, hbit]))]
      | true =>
        simp only [if_true]
        rw [m2]
        rw [if_neg fun e => by have := (bit_same e).2; rw [hn, hbit] at this; cases this]
/-- what tells of a slot looks at its lower bits alone -/
theorem den_low {P : Prs} : ∀ {L s n m : Nat}, n % 2 ^ (6 + L) = m % 2 ^ (6 + L) → den L P s n = den L P s m
  | 0, s, n, m, h => by
    show s.testBit (n % 64) = s.testBit (m % 64)
    rw [show n % 64 = m % 64 from h]
  | L + 1, s, n, m, h => by
    obtain ⟨h1, h2⟩ := bit_same h
    rw [den, den, h2]
    exact den_low h1
/-- ONE SET, ONE NUMBER -/
theorem den_one {P : Prs} (hP : PrOk P) : ∀ {L s t : Nat}, vsP L P s → vsP L P t → (∀ n, den L P s n = den L P t n) → s = t
  | 0, s, t, hs, ht, h => by
    refine Nat.eq_of_testBit_eq fun k => ?_
    by_cases hk : k < 64
    · have := h k
      simp only [den, Nat.mod_eq_of_lt hk] at this
      exact this
    · have hk2 : (2 : Nat) ^ 64 ≤ 2 ^ k := Nat.pow_le_pow_right (by decide) (by omega)
      rw [Nat.testBit_lt_two_pow (Nat.lt_of_lt_of_le (show s < 2 ^ 64 from hs) hk2), Nat.testBit_lt_two_pow (Nat.lt_of_lt_of_le (show t < 2 ^ 64 from ht) hk2)]
  | L + 1, s, t, ⟨⟨p, hp⟩, h1, h2⟩, ⟨⟨q, hq⟩, h3, h4⟩, h => by
    have hpow : 2 ^ (6 + L) = 64 * 2 ^ L := by rw [Nat.pow_add]
    have lo : ∀ n, den L P (atP P s).1 n = den L P (atP P t).1 n := fun n => by
      have hlt : n % 2 ^ (6 + L) < 2 ^ (6 + L) := Nat.mod_lt _ (Nat.two_pow_pos _)
      have hb : (n % 2 ^ (6 + L) / 64).testBit L = false := Nat.testBit_lt_two_pow (by rw [hpow] at hlt ⊢; omega)
      have e : n % 2 ^ (6 + L) % 2 ^ (6 + L) = n % 2 ^ (6 + L) := Nat.mod_mod _ _
      have := h (n % 2 ^ (6 + L))
      rw [den, den, hb] at this
      simp only [Bool.false_eq_true, if_false] at this
      rw [den_low e.symm, den_low (s := (atP P t).1) e.symm]
      exact this
    have hi : ∀ n, den L P (atP P s).2 n = den L P (atP P t).2 n := fun n => by
      have hlt : n % 2 ^ (6 + L) < 2 ^ (6 + L) := Nat.mod_lt _ (Nat.two_pow_pos _)
      have e : (n % 2 ^ (6 + L) + 2 ^ (6 + L)) % 2 ^ (6 + L) = n % 2 ^ (6 + L) := by rw [Nat.add_mod_right, Nat.mod_mod]
      have hb : ((n % 2 ^ (6 + L) + 2 ^ (6 + L)) / 64).testBit L = true := by
        have hd : (n % 2 ^ (6 + L) + 2 ^ (6 + L)) / 64 = 2 ^ L + n % 2 ^ (6 + L) / 64 := by rw [hpow]; omega
        rw [hd, Nat.testBit_two_pow_add_eq, Nat.testBit_lt_two_pow (by rw [hpow] at hlt ⊢; omega)]
        rfl
      have := h (n % 2 ^ (6 + L) + 2 ^ (6 + L))
      rw [den, den, hb] at this
      simp only [if_true] at this
      rw [den_low e.symm, den_low (s := (atP P t).2) e.symm]
      exact this
    have e1 := den_one hP h1 h3 lo
    have e2 := den_one hP h2 h4 hi
    rw [atP_eq hp, atP_eq hq] at e1 e2
    have epq : p = q := Prod.ext e1 e2
    subst epq
    obtain ⟨k1, k2⟩ := List.getElem?_eq_some_iff.1 hp
    obtain ⟨k3, k4⟩ := List.getElem?_eq_some_iff.1 hq
    exact (List.getElem_inj hP.nd).1 (k2.trans k4.symm)
/-- the set of the first so many -/
def firP (many : Nat) : Nat → Prs → Prs × Nat × Nat
  | 0, P => (P, 18446744073709551615, 2 ^ (many % 64) - 1)
  | L + 1, P => ((numP (numP (firP many L P).1 (if (many / 64).testBit L then ((firP many L P).2.1, (firP many L P).2.2) else ((firP many L P).2.2, 0))).1 ((firP many L P).2.1, (firP many L P).2.1)).1, (numP (numP (firP many L P).1 (if (many / 64).testBit L then ((firP many L P).2.1, (firP many L P).2.2) else ((firP many L P).2.2, 0))).1 ((firP many L P).2.1, (firP many L P).2.1)).2, (numP (firP many L P).1 (if (many / 64).testBit L then ((firP many L P).2.1, (firP many L P).2.2) else ((firP many L P).2.2, 0))).2)
theorem fir_spec (many : Nat) : ∀ (L : Nat) {P : Prs}, PrOk P → P <+: (firP many L P).1 ∧ PrOk (firP many L P).1 ∧ vsP L (firP many L P).1 (firP many L P).2.1 ∧ vsP L (firP many L P).1 (firP many L P).2.2 ∧ (∀ n, den L (firP many L P).1 (firP many L P).2.1 n = true) ∧ (∀ n, den L (firP many L P).1 (firP many L P).2.2 n = decide (n % 2 ^ (6 + L) < many % 2 ^ (6 + L))) ∧ (firP many L P).1.length ≤ P.length + 2 * L
  | 0, P, h => by
    have hp : 2 ^ (many % 64) ≤ 2 ^ 64 := Nat.pow_le_pow_right (by decide) (by omega)
    have hp0 := Nat.two_pow_pos (many % 64)
    refine ⟨List.prefix_refl _, h, (by decide : (18446744073709551615 : Nat) < 18446744073709551616), (by show 2 ^ (many % 64) - 1 < 2 ^ 64; omega), fun n => ?_, fun n => ?_, by simp [firP]⟩
    · show (2 ^ 64 - 1).testBit (n % 64) = true
      rw [Nat.testBit_two_pow_sub_one]
      simp; omega
    · show (2 ^ (many % 64) - 1).testBit (n % 64) = _
      rw [Nat.testBit_two_pow_sub_one]
  | L + 1, P, h => by
    obtain ⟨g1, g2, g3, g4, g5, g6, g7⟩ := fir_spec many L h
    rw [firP]
    generalize firP many L P = R at *
    obtain ⟨Q, f, s⟩ := R
    simp only at *
    obtain ⟨z1, z2⟩ := vs_zero g2 L
    have hlt : ∀ n, n % 2 ^ (6 + L) < 2 ^ (6 + L) := fun n => Nat.mod_lt _ (Nat.two_pow_pos _)
    cases hbit : (many / 64).testBit L with
    | true =>
      simp only [if_true]
      obtain ⟨q1, q2⟩ := num_next g2 g3 g4
      obtain ⟨r1, r2, _, r4⟩ := numP_spec g2 (f, s)
      obtain ⟨f1, f2⟩ := vs_mono r1 g3
      obtain ⟨q3, q4⟩ := num_next r2 f1 f1
      obtain ⟨t1, t2, _, t4⟩ := numP_spec r2 (f, f)
      obtain ⟨u1, u2⟩ := vs_mono t1 q1
      refine ⟨List.IsPrefix.trans g1 (List.IsPrefix.trans r1 t1), t2, q3, u1, fun n => ?_, fun n => ?_, by omega⟩
      · rw [q4]
        split <;> (rw [f2]; exact g5 n)
      · rw [u2, q2, low_step n L, low_step many L, hbit]
        cases hn : (n / 64).testBit L with
        | true =>
          simp only [if_true]
          rw [g6]
          exact decide_eq_decide.2 (by simp)
        | false =>
          simp only [Bool.false_eq_true, if_false]
          rw [g5]
          symm
          rw [decide_eq_true_iff]
          have := hlt n
          simp; omega
    | false =>
      simp only [Bool.false_eq_true, if_false]
      obtain ⟨q1, q2⟩ := num_next g2 g4 z1
      obtain ⟨r1, r2, _, r4⟩ := numP_spec g2 (s, 0)
      obtain ⟨f1, f2⟩ := vs_mono r1 g3
      obtain ⟨q3, q4⟩ := num_next r2 f1 f1
      obtain ⟨t1, t2, _, t4⟩ := numP_spec r2 (f, f)
      obtain ⟨u1, u2⟩ := vs_mono t1 q1
      refine ⟨List.IsPrefix.trans g1 (List.IsPrefix.trans r1 t1), t2, q3, u1, fun n => ?_, fun n => ?_, by omega⟩
      · rw [q4]
        split <;> (rw [f2]; exact g5 n)
      · rw [u2, q2, low_step n L, low_step many L, hbit]
        cases hn : (n / 64).testBit L with
        | true =>
          simp only [if_true]
          rw [z2]
          symm
          rw [decide_eq_false_iff_not]
          have := hlt many
          simp; omega
        | false =>
          simp only [Bool.false_eq_true, if_false]
          rw [g6]
          exact decide_eq_decide.2 (by simp)
/-! ### sets, in plain words -/
abbrev SetN := Nat → Bool
def setP (L : Nat) (P : Prs) (s : Nat) : SetN := fun n => decide (n < 2 ^ (6 + L)) && den L P s n
theorem set_one {P : Prs} (hP : PrOk P) {L s t : Nat} (hs : vsP L P s) (ht : vsP L P t) : setP L P s = setP L P t ↔ s = t := by
  refine ⟨fun h => den_one hP hs ht fun n => ?_, fun h => by rw [h]⟩
  have hlt : n % 2 ^ (6 + L) < 2 ^ (6 + L) := Nat.mod_lt _ (Nat.two_pow_pos _)
  have e : n % 2 ^ (6 + L) % 2 ^ (6 + L) = n % 2 ^ (6 + L) := Nat.mod_mod _ _
  have := congrFun h (n % 2 ^ (6 + L))
  unfold setP at this
  rw [decide_eq_true hlt, Bool.true_and, Bool.true_and, den_low e, den_low (s := t) e] at this
  exact this
theorem set_mono {P Q : Prs} (h : P <+: Q) {L s : Nat} (hs : vsP L P s) : setP L Q s = setP L P s := by
  funext n
  unfold setP
  rw [(vs_mono h hs).2]
theorem set_with {P : Prs} (hP : PrOk P) {L s slot : Nat} (hs : vsP L P s) (hl : slot < 2 ^ (6 + L)) : setP L (chgP L P s slot (2 ^ (slot % 64))).1 (chgP L P s slot (2 ^ (slot % 64))).2 = fun n => setP L P s n || n == slot := by
  funext n
  have h := (chg_spec (slot := slot) (.inr rfl) L hP hs).2.2.2.1 n
  unfold setP
  rw [h, Nat.mod_eq_of_lt hl]
  by_cases hn : n < 2 ^ (6 + L)
  · rw [decide_eq_true hn, Nat.mod_eq_of_lt hn]
    have : 2 ^ (slot % 64) ≠ 0 := Nat.ne_of_gt (Nat.two_pow_pos _)
    by_cases e : n = slot
    · subst e; simp
    · simp [e]
  · rw [decide_eq_false hn]
    symm
    simp
    omega
theorem set_without {P : Prs} (hP : PrOk P) {L s slot : Nat} (hs : vsP L P s) (hl : slot < 2 ^ (6 + L)) : setP L (chgP L P s slot 0).1 (chgP L P s slot 0).2 = fun n => setP L P s n && n != slot := by
  funext n
  have h := (chg_spec (slot := slot) (to := 0) (.inl rfl) L hP hs).2.2.2.1 n
  unfold setP
  rw [h, Nat.mod_eq_of_lt hl]
  by_cases hn : n < 2 ^ (6 + L)
  · rw [decide_eq_true hn, Nat.mod_eq_of_lt hn]
    by_cases e : n = slot
    · subst e; simp
    · simp [e]
  · rw [decide_eq_false hn]; simp
theorem set_first {P : Prs} (hP : PrOk P) {L many : Nat} (hm : many < 2 ^ (6 + L)) : setP L (firP many L P).1 (firP many L P).2.2 = fun n => decide (n < many) := by
  funext n
  have h := (fir_spec many L hP).2.2.2.2.2.1 n
  unfold setP
  rw [h, Nat.mod_eq_of_lt hm]
  by_cases hn : n < 2 ^ (6 + L)
  · rw [decide_eq_true hn, Nat.mod_eq_of_lt hn, Bool.true_and]
  · rw [decide_eq_false hn, Bool.false_and]
    symm
    rw [decide_eq_false_iff_not]
    omega
theorem set_has {P : Prs} {L s slot : Nat} (hl : slot < 2 ^ (6 + L)) : den L P s slot = setP L P s slot := by
  unfold setP
  rw [decide_eq_true hl, Bool.true_and]
theorem begin_ok : PrOk [pz] := ⟨by simp, rfl⟩
end Go.Proofs.YtadmpgegolmkgaaDoor
namespace Go.Proofs.YtadmpgegolmkgaaDoor
open Go.RowKit
set_option linter.unusedVariables false
set_option linter.unusedSimpArgs false

theorem hi_bit (slot level : Nat) (hs : slot ≤ 2147483648) : (bits BinOp.and IntKind.i64 ((slot : Int) / 64 / 2 ^ level) 1 == 1) = (slot / 64).testBit level := by
  have e : ((slot : Int) / 64 / 2 ^ level) = ((slot / 64 / 2 ^ level : Nat) : Int) := by
    rw [Int.natCast_ediv, Int.natCast_ediv, Int.natCast_pow]; rfl
  have hle : slot / 64 / 2 ^ level ≤ 2147483648 := Nat.le_trans (Nat.div_le_self _ _) (by omega)
  have h := bits_mask .i64 62 (by decide) (fun n h0 h1 => by rw [IntKind.wrap_i64]; omega) 1 (by omega) ((slot / 64 / 2 ^ level : Nat) : Int) (Int.natCast_nonneg _) (by
    have : ((slot / 64 / 2 ^ level : Nat) : Int) ≤ 2147483648 := by omega
    omega)
  rw [show ((2 : Int) ^ 1 - 1) = 1 from rfl, show ((2 : Int) ^ 1) = 2 from rfl] at h
  rw [e, h, Nat.testBit_eq_decide_div_mod_eq]
  generalize slot / 64 / 2 ^ level = z at *
  rcases Nat.mod_two_eq_zero_or_one z with q | q
  · rw [decide_eq_false (by omega)]
    simp
    omega
  · rw [decide_eq_true q]
    simp
    omega
set_option maxRecDepth 100000 in
set_option maxHeartbeats 1000000 in
theorem isHigh_any (slot level : Nat) (hs : slot ≤ 2147483648) (hl : level < 64) (w : World) : Calls Tryd.prog 61 #[.int .i64 (slot : Int), .int .i64 ((level : Int) + 1)] w fun e w' => e = .returned (.bool ((slot / 64).testBit level)) ∧ w = w' := by
  have e1 : (level : Int) + 1 - 1 = (level : Int) := by omega
  have hb := hi_bit slot level hs
  go_enter Tryd.func61, Tryd.ntmps61
  go_wp2_with (simp only [e1])
  go_ret
  exact ⟨rfl, rfl⟩
set_option maxRecDepth 100000 in
set_option maxHeartbeats 1000000 in
theorem bitOf_any (slot : Nat) (hs : slot ≤ 2147483648) (w : World) : Calls Tryd.prog 81 #[.int .i64 (slot : Int)] w fun e w' => e = .returned (.int .u64 ((2 ^ (slot % 64) : Nat) : Int)) ∧ w = w' := by
  have hb := pow_u64 (slot % 64) (Nat.mod_lt _ (by decide))
  go_enter Tryd.func81, Tryd.ntmps81
  go_wp2
  go_ret
  exact ⟨congrArg (fun z => Ending.returned (.int .u64 z)) hb, rfl⟩
end Go.Proofs.YtadmpgegolmkgaaDoor
namespace Go.Proofs.YtadmpgegolmkgaaDoor
open Go.RowKit Go.MapKept Go.ChangeMaps Go.WideShapes
set_option linter.unusedVariables false
set_option linter.unusedSimpArgs false

/-! ### maps by pairs -/
def Rwp (v : Value) : Option (DataW Value × List MemPlace) := some (.held v, [])
def prV (p : Nat × Nat) : Value := .agg #[.int .u64 (p.1 : Int), .int .u64 (p.2 : Int)]
def Pr64 (p : Nat × Nat) : Prop := p.1 < 18446744073709551616 ∧ p.2 < 18446744073709551616
theorem out_laid : laidOutB Tryd.prog = true := by kernel_rfl
theorem lawPr : WideMaps.KeyLaw Tryd.prog 120 := deep_law_laid out_laid (m := 4) (by omega) (by decide +kernel) (by kernel_rfl) (by kernel_rfl)
theorem keyedPr : Maps.Keyed Tryd.prog 120 := Maps.Keyed.of_law lawPr
theorem sizePr : ∃ m, Tryd.prog.types.size = m + 1 := ⟨Tryd.prog.types.size - 1, by kernel_rfl⟩
theorem keyTPr : Tryd.prog.keyType 120 = true := by kernel_rfl
theorem cellsPr : Tryd.prog.cellsOf 120 = 2 := by kernel_rfl
theorem cellsSl : Tryd.prog.cellsOf 64 = 1 := by kernel_rfl
theorem wf_u64 {x : Nat} (h : x < 18446744073709551616) : (Lit.int .u64 (x : Int)).wf = true := by
  have := WalkArith.wf_u64 (n := (x : Int)) (by omega)
  exact this
theorem keyPr (p : Nat × Nat) (h : Pr64 p) : ∃ kl, keyOf Tryd.prog 120 (prV p) = some kl := by
  obtain ⟨a, b⟩ := p
  obtain ⟨m, hm⟩ := sizePr
  have w1 := wf_u64 h.1
  have w2 := wf_u64 h.2
  simp only at w1 w2
  unfold keyOf
  rw [Tryd.underlying120]
  simp only [keyTPr, Bool.true_and, prV]
  rw [hm]
  simp [Program.keyLits, Tryd.underlying120, Tryd.underlying64, cellsPr, cellsSl, w1, w2, Value.cells, Value.formed]
theorem prV_inj {p q : Nat × Nat} (e : prV p = prV q) : p = q := by
  obtain ⟨a, b⟩ := p
  obtain ⟨c, d⟩ := q
  simp [prV] at e
  obtain ⟨h1, h2⟩ := e
  have e1 : a = c := by omega
  have e2 : b = d := by omega
  rw [e1, e2]
theorem keyPr_ne {s t : Nat × Nat} {k l : Lit} (hk : keyOf Tryd.prog 120 (prV s) = some k) (hl : keyOf Tryd.prog 120 (prV t) = some l) (h : s ≠ t) : k ≠ l := fun e => h (prV_inj (keyedPr.inj hk (e ▸ hl)))
def nmV (o : Option Nat) : Value := .int .u64 ((o.getD 0 : Nat) : Int)
structure MpP (W : World) (mb n : Nat) (N : Nat × Nat → Option Nat) : Prop where
  ex : ∃ D, W.ownsMap Tryd.prog 120 Rwp mb n D ∧ ∀ p, Pr64 p → ∀ kl, keyOf Tryd.prog 120 (prV p) = some kl → D.atKey kl (.held (.int .u64 0)) = .held (nmV (N p)) ∧ Maps.has D kl = (N p).isSome
theorem mp_new (W : World) : MpP (W.alloc (.map #[] 0)) W.heap.size 0 (fun _ => none) := ⟨_, World.ownsMap_made W Tryd.prog 120 Rwp, fun p _ kl _ => ⟨rfl, rfl⟩⟩
theorem MpP.same {W W' : World} {mb n : Nat} {N : Nat × Nat → Option Nat} (h : MpP W mb n N) (hg : W'.heap[mb]? = W.heap[mb]?) : MpP W' mb n N := by
  obtain ⟨D, ⟨es, clock, h0, h3⟩, h2⟩ := h.ex
  exact ⟨D, ⟨es, clock, hg.trans h0, h3⟩, h2⟩
theorem MpP.obj {W : World} {mb n : Nat} {N : Nat × Nat → Option Nat} (h : MpP W mb n N) : ∃ es clock, W.heap[mb]? = some (.map es clock) := by
  obtain ⟨D, ⟨es, clock, h0, _⟩, _⟩ := h.ex
  exact ⟨es, clock, h0⟩
theorem MpP.look {W : World} {mb n : Nat} {N : Nat × Nat → Option Nat} (h : MpP W mb n N) (p : Nat × Nat) (hp : Pr64 p) : (Instr.lookup 71 (.map (some mb)) (prV p) true).run Tryd.prog W = .ok (.tuple #[nmV (N p), .bool (N p).isSome]) W := by
  obtain ⟨D, h1, h2⟩ := h.ex
  obtain ⟨kl, hkl⟩ := keyPr p hp
  obtain ⟨v, ps, hr, hv⟩ := h1.look_ok keyedPr Tryd.underlying71 (Tryd.zeroValue64 W) (zd := .held (.int .u64 0)) (zp := []) rfl hkl
  rw [(h2 p hp kl hkl).1] at hv
  rw [(h2 p hp kl hkl).2] at hr
  have hv2 : v = nmV (N p) := by
    have h3 := congrArg Prod.fst (Option.some.inj (show some ((DataW.held v : DataW Value), ([] : List MemPlace)) = some (DataW.held (nmV (N p)), ps) from hv))
    exact DataW.held.inj h3
  rw [hr, hv2]
theorem MpP.put {W : World} {mb n : Nat} {N : Nat × Nat → Option Nat} (h : MpP W mb n N) (p : Nat × Nat) (hp : Pr64 p) (hn : n < maxLen) (x : Nat) :
    ∃ w', (Instr.mapUpdate 71 (.map (some mb)) (prV p) (.int .u64 (x : Int))).run Tryd.prog W = .ok () w' ∧ MpP w' mb (n + 1) (fun q => if q = p then some x else N q) ∧ W.grownBy w' (some mb) := by
  obtain ⟨D, h1, h2⟩ := h.ex
  obtain ⟨kc, hkc⟩ := keyPr p hp
  obtain ⟨w', hr, h4, h5⟩ := h1.update keyedPr Tryd.underlying71 hn (val := .int .u64 (x : Int)) (d := .held (.int .u64 (x : Int))) (ps := []) hkc rfl
  refine ⟨w', hr, ⟨_, h4, fun d hd kl hkl => ?_⟩, h5⟩
  by_cases e : d = p
  · subst e
    rw [hkc] at hkl
    cases hkl
    rw [if_pos rfl, Maps.atKey_put_same h1.isMap (keyedPr.key hkc), Maps.has_put_same h1.isMap (keyedPr.key hkc)]
    exact ⟨rfl, rfl⟩
  · rw [if_neg e, Maps.atKey_put_other (keyPr_ne hkl hkc e), Maps.has_put_other (keyPr_ne hkl hkc e)]
    exact h2 d hd kl hkl
theorem MpP.clear {W : World} {mb n : Nat} {N : Nat × Nat → Option Nat} (h : MpP W mb n N) : ∃ w', (∀ ty, (Builtin.clear_ #[71] ty #[.map (some mb)]).run Tryd.prog W = .ok (.tuple #[]) w') ∧ MpP w' mb 0 (fun _ => none) ∧ W.grownBy w' (some mb) := by
  obtain ⟨D, ⟨es, clock, hb, _⟩, _⟩ := h.ex
  have hl := (Array.getElem?_eq_some_iff.1 hb).1
  refine ⟨setBlock W mb (.map #[] clock), fun ty => ?_, ⟨.map [], ⟨#[], clock, heap_setBlock_same hb _, ⟨by simp, stamped_empty clock, by simp⟩, Nat.le_refl _, rfl⟩, fun p _ kl _ => ⟨rfl, rfl⟩⟩, ⟨rfl, rfl, rfl, by simp [setBlock], fun i _ hi => heap_setBlock_other hb _ (fun e => hi (by rw [e]))⟩⟩
  have hu : Tryd.prog.underlying 71 = some (.map 120 64) := Tryd.underlying71
  have hg : (getObj mb).run Tryd.prog W = .ok (.map es clock) W := by simp [getObj, Sem.run, hb]
  have hs : (setObj mb (.map #[] clock)).run Tryd.prog W = .ok () (setBlock W mb (.map #[] clock)) := by simp [setObj, Sem.run, hb, setBlock]
  simp [Builtin.clear_, run_underlying hu, hg, hs, Result.andThen]
end Go.Proofs.YtadmpgegolmkgaaDoor
