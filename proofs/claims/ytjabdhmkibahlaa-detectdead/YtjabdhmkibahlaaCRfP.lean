import Derived.Test.YtjabdhmkibahlaaCRfR
import Derived.Test.YtjabdhmkibahlaaCER
namespace Go.Proofs.Ytjabdhmkibahlaa
open Go.RowKit
set_option linter.unusedVariables false
set_option linter.unusedSimpArgs false

/-! ### the reference's Chain -/
theorem can_in {s : List Ag} (hok : stOk s = true) {id : Int} (h : Can s id) : ∃ a ∈ s, a.id = id ∧ a.awake = false := by
  have fin : ∀ a ∈ s, a.arms ≠ [] → a.awake = false := fun a ha h => by
    cases hw : a.awake with
    | false => rfl
    | true => exact absurd (awk_arms hok ha hw) h
  cases h with
  | first h =>
    obtain ⟨a, ha, e, x, hx, _⟩ := (n0_some s id).1 h
    exact ⟨a, ha, e, fin a ha fun q => by rw [q] at hx; cases hx⟩
  | more hj ha hx hc => exact ⟨_, ha, rfl, fin _ ha fun q => by rw [q] at hx; cases hx⟩
theorem pl_in {s : List Ag} (hok : stOk s = true) {i : Nat} (hi : i < s.length) {id : Int} (e : s[i].id = id) : plI s id = i := by
  have key : ∀ (r : List Ag) (k j : Nat) (hj : j < r.length), r[j].id = id → (∀ m (hm : m < r.length), m < j → r[m].id ≠ id) → plF id k r = ((k + j : Nat) : Int) := by
    intro r
    induction r with
    | nil => intro k j hj; simp at hj
    | cons a r ih =>
      intro k j hj he hm
      cases j with
      | zero =>
        have he' : a.id = id := he
        rw [plF, if_pos he']; rfl
      | succ j =>
        have hm' : ¬ a.id = id := hm 0 (by simp) (by omega)
        rw [plF, if_neg hm', ih (k + 1) j (by simpa using hj) he (fun m hm2 hmj => hm (m + 1) (by simpa using hm2) (by omega))]
        congr 1; omega
  have := key s 0 i hi e (fun m hm hmi e2 => by
    have := st_ids hok hm hi (e2.trans e.symm)
    omega)
  rw [Nat.zero_add] at this
  exact this
theorem pl_out {s : List Ag} {id : Int} (h : ∀ a ∈ s, a.id ≠ id) : plI s id = -1 := by
  have key : ∀ (r : List Ag) (k : Nat), (∀ a ∈ r, a.id ≠ id) → plF id k r = -1 := by
    intro r
    induction r with
    | nil => intro k _; rfl
    | cons a r ih =>
      intro k h
      rw [plF, if_neg (h a List.mem_cons_self), ih (k + 1) fun b hb => h b (List.mem_cons_of_mem _ hb)]
  exact key s 0 h
theorem LksR.newsL {w : World} {p : Option Addr} {c : Nat} {l : List Lk} (h : LksR w p c l) : 0 < l.length → ∃ ad, p = some ad ∧ ∀ j u, (lksC l)[j]? = some u → w.cell? (ad.add j) = some u := by
  intro h0
  obtain ⟨b, o, e, _, _⟩ := h.at_ 0 h0
  refine ⟨⟨b, o, none⟩, e, fun j u hj => ?_⟩
  have hl : j < l.length * 3 := by
    have := (List.getElem?_eq_some_iff.1 hj).1
    rw [lksC_lnz] at this
    exact this
  obtain ⟨b', o', e', _, hc⟩ := h.at_ (j / 3) (by omega)
  rw [e] at e'
  cases e'
  obtain ⟨q0, q1, q2⟩ := hc w (Below.refl _ _)
  obtain ⟨z0, z1, z2⟩ := lksC_at l (j / 3) (by omega)
  rw [add_off]
  have h3 : j % 3 = 0 ∨ j % 3 = 1 ∨ j % 3 = 2 := by omega
  rcases h3 with h3 | h3 | h3
  · have ej : j / 3 * 3 = j := by omega
    rw [ej] at q0 z0
    rw [q0, ← z0, hj]
  · have ej : j / 3 * 3 + 1 = j := by omega
    rw [show o + j / 3 * 3 + 1 = o + j by omega] at q1
    rw [ej] at z1
    rw [q1, ← z1, hj]
  · have ej : j / 3 * 3 + 2 = j := by omega
    rw [show o + j / 3 * 3 + 2 = o + j by omega] at q2
    rw [ej] at z2
    rw [q2, ← z2, hj]
theorem lksC_one (l : List Lk) : ∀ u ∈ lksC l, u.oneCell' = true := fun u hu => by
  unfold lksC at hu
  obtain ⟨x, _, hx⟩ := List.mem_flatMap.1 hu
  simp only [lkC, List.mem_cons, List.not_mem_nil, or_false] at hx
  rcases hx with rfl | rfl | rfl <;> rfl
/-- a link more, ahead -/
theorem ch_more {wr : World} {q : Option Addr} {d : Nat} {L : List Lk} (h : LksR wr q d L) (h64 : ∀ l ∈ L, Lk64 l) (x : Lk) (hx : Lk64 x) (n : Nat) (hn : n = L.length) (hl : n ≤ 4097) :
    ∃ q' d' W3, (∀ ty, (Builtin.append_ #[36, 36] ty #[.slice (some ⟨wr.heap.size, 0, none⟩) 1 1, .slice q n d]).run Try.prog (wr.alloc (.cells #[.int .i64 x.waker, .int .i64 x.woken, .int .i64 x.chan] 24)) = .ok (.slice q' (n + 1) d') W3) ∧ LksR W3 q' d' (x :: L) ∧ Below wr.heap.size wr W3 := by
  subst hn
  obtain ⟨j0, hj0, jz0, jz1, jz2⟩ := info_parts infoL
  obtain ⟨X, hX⟩ : ∃ X, wr.alloc (.cells #[.int .i64 x.waker, .int .i64 x.woken, .int .i64 x.chan] 24) = X := ⟨_, rfl⟩
  have hb : Below wr.heap.size wr X := by rw [← hX]; exact below1 _ _
  have ho : X.ownsRow 0 24 3 (.slice (some ⟨wr.heap.size, 0, none⟩) 1 1) 1 (lkC x) := own_blk (n := 1) (z := 3) (us := #[.int .i64 x.waker, .int .i64 x.woken, .int .i64 x.chan]) (by rw [← hX]; exact World.alloc_heap_new _ _) rfl (by decide)
  rw [hX]
  obtain ⟨v, W3, r, o, gr⟩ := appL Try.underlying36 hj0 jz0 jz1 jz2 rfl (by decide) X 0 _ 1 (lkC x) ho q L.length d (lksC L) (lksC_lnz L) (h.later hb).newsL (lksC_one L) (by unfold maxLen; omega) (by omega) (Nat.zero_le _)
  have e : lkC x ++ lksC L = lksC (x :: L) := rfl
  rw [e, show 1 + L.length = (x :: L).length by simp; omega] at o
  obtain ⟨q', d', e', h'⟩ := lks_read o (fun l hl => by
    rcases List.mem_cons.1 hl with rfl | hl
    · exact hx
    · exact h64 l hl)
  subst e'
  refine ⟨q', d', W3, r, h', hb.trans ((Below.refl _ _).grown gr hb.size fun k hk => ?_)⟩
  simp only [Value.ownBlock, Option.some.injEq] at hk
  omega
theorem own_caps' {W : World} {B s n k c : Nat} {a : Option Addr} {t : TypeId} {cs : List Value} (h : W.ownsRow B t s (.slice a k c) n cs) : n ≤ c := by
  rcases h.2 with ⟨e, e2⟩ | ⟨g', cap, cur, e, hB, hg, q1, q2, q3, q4⟩
  · omega
  · simp only [Value.slice.injEq] at e
    obtain ⟨_, _, rfl⟩ := e
    exact q1
theorem lksC_get' (l : List Lk) (k : Nat) (x : Lk) (h : l[k]? = some x) : (lksC l)[k * 3]? = some (.int .i64 x.waker) ∧ (lksC l)[k * 3 + 1]? = some (.int .i64 x.woken) ∧ (lksC l)[k * 3 + 2]? = some (.int .i64 x.chan) := by
  obtain ⟨hk, e⟩ := List.getElem?_eq_some_iff.1 h
  subst e
  exact lksC_at l k hk
theorem full_ways {s : List Ag} (hok : stOk s = true) {Z : Int → Option Wy} (h : Full s Z) : Ways s Z := by
  obtain ⟨k, A, N, h1, h2⟩ := h
  obtain ⟨hk, i1, i2⟩ := lvl_ways hok h1
  refine ⟨i1, fun id l hl => ?_⟩
  rcases lvl_first h1 hl with ⟨rfl, rfl, e⟩ | ⟨e, _⟩
  · rw [h2 id] at hl; cases hl
  · exact .inr e
/-- the chain, in a list that may be read -/
def RcPost (w : World) (s : List Ag) (id : Int) (e : Ending) (w' : World) : Prop := ∃ Z, Full s Z ∧ (Z id = none ∧ e = .returned (.tuple #[.slice none 0 0, .bool false]) ∨ ∃ (n : Nat) (l : Lk) (q : Option Addr) (d : Nat), Z id = some ((n : Int), l) ∧ 1 ≤ n ∧ n ≤ 4097 ∧ e = .returned (.tuple #[.slice q (chL Z n ((n : Int), l)).length d, .bool true]) ∧ LksR w' q d (chL Z n ((n : Int), l))) ∧ Below w.heap.size w w'
set_option maxRecDepth 100000 in
theorem rChain_no (w : World) (p : Option Addr) (c : Nat) (s : List Ag) (id : Int) (h : AgsR w p c s) (hok : stOk s = false) : Calls Try.prog 28 #[.slice p s.length c, .int .i64 id] w fun e w' => e = .returned (.tuple #[.slice none 0 0, .bool false]) ∧ Below w.heap.size w w' := by
  have HC : Bx (Calls Try.prog 13 #[.slice p s.length c] w fun e w' => e = .returned (.int .i64 140) ∧ Below w.heap.size w w') := ⟨by
    have := rcheck_any w p c s h
    rw [show chkI s = 140 by simp [chkI, hok]] at this
    exact this⟩
  clear h hok
  go_enter Try.func28, Try.ntmps28
  go_wp2_with (first | (go_at_call 13; refine Calls.mono HC.out ?_; rintro e w1 ⟨rfl, hb1⟩))
  exact bodyPost_ret (v := .tuple #[.slice none 0 0, .bool false]) (by simp [results, Try.results28, go_sem]) rfl ⟨rfl, hb1⟩
set_option maxRecDepth 100000 in
set_option maxHeartbeats 4000000 in
theorem rChain_yes (w : World) (p : Option Addr) (c : Nat) (s : List Ag) (id : Int) (h : AgsR w p c s) (hid : I64 id) (hok : stOk s = true) : Calls Try.prog 28 #[.slice p s.length c, .int .i64 id] w (RcPost w s id) := by
  have hlc := h.len
  have hcm := h.max
  unfold maxLen at hcm
  have hl := st_len hok
  obtain ⟨Z, hZ, hlvs, _⟩ := lvs_full hok
  have HZ : Bx (Full s Z) := ⟨hZ⟩
  have HS : Bx (AgsR w p c s) := ⟨h⟩
  have HC : Bx (Calls Try.prog 13 #[.slice p s.length c] w fun e w' => e = .returned (.int .i64 0) ∧ Below w.heap.size w w') := ⟨by
    have := rcheck_any w p c s h
    rw [show chkI s = 0 by simp [chkI, hok]] at this
    exact this⟩
  have HLV : Bx (∀ W, Below w.heap.size w W → Calls Try.prog 51 #[.slice p s.length c] W fun e w' => ∃ v1 v2, e = .returned (.tuple #[v1, v2]) ∧ LvM W w' W.heap.size s.length v1 v2 (lvZ s Z) (lkZ s Z)) := ⟨fun W hW => by
    have := rLevels_any W p c s (h.later hW) hl
    rw [hlvs] at this
    exact this⟩
  have HPL : Bx (∀ W n, Below w.heap.size w W → I64 n → Calls Try.prog 52 #[.slice p s.length c, .int .i64 n] W fun e w' => e = .returned (.int .i64 (plI s n)) ∧ Below W.heap.size W w') := ⟨fun W n hW hn => rplace_any W p c s n (h.later hW) hn⟩
  have HOK : Bx (stOk s = true) := ⟨hok⟩
  clear h hok hlvs hZ
  go_enter Try.func28, Try.ntmps28
  go_wp2_with (first
    | (go_at_call 13; refine Calls.mono HC.out ?_; rintro e w1 ⟨rfl, hb1⟩; have B1 : Bx _ := ⟨hb1⟩; clear hb1 HC)
    | (go_at_call 51; refine Calls.mono (HLV.out w1 B1.out) ?_; rintro e w2 ⟨v1, v2, rfl, hM⟩; obtain ⟨g1, d1, e1⟩ := owns_slice hM.lev; obtain ⟨g2, d2, e2⟩ := owns_slice hM.lnk; have hn4 := hM.n4; have hn5 := hM.n5; rw [hn4] at e1; rw [hn5] at e2; subst e1; subst e2; have B2 : Bx (Below w.heap.size w w2) := ⟨B1.out.trans (hM.bel.mono B1.out.size)⟩; have HM : Bx _ := ⟨hM⟩; clear hM HLV hn4 hn5))
  go_at_call 52
  refine Calls.mono (HPL.out w2 id B2.out hid) ?_
  rintro e w3 ⟨rfl, hb3⟩
  have B3 : Bx (Below w.heap.size w w3 ∧ Below w2.heap.size w2 w3) := ⟨B2.out.trans (hb3.mono B2.out.size), hb3⟩
  clear hb3
  by_cases hin : ∃ a ∈ s, a.id = id
  · obtain ⟨a, ha, hae⟩ := hin
    obtain ⟨i, hi, rfl⟩ := List.mem_iff_getElem.1 ha
    rw [pl_in HOK.out hi hae]
    have hM3 := HM.out.later rfl B3.out.2
    have hlev := hM3.lev
    rw [hM3.n4] at hlev
    have hcc := own_caps' hlev
    have hg1 : ∃ g4, g1 = some ⟨g4, 0, none⟩ := by
      rcases hlev.2 with ⟨_, q⟩ | ⟨g, cap, cur, q, _⟩
      · omega
      · simp only [Value.slice.injEq] at q; exact ⟨g, q.1⟩
    obtain ⟨g4, rfl⟩ := hg1
    have cl : w3.cell? ⟨g4, i, none⟩ = some (.int .i64 (lvA Z s[i])) := owns_cellj hlev (by unfold rowC; rw [List.getElem?_map, lvZ_at hi]; rfl)
    have hi0 : ¬ ((i : Int) < 0) := by omega
    have hi1 : (0 : Int) ≤ (i : Int) := by omega
    have hi2 : (i : Int) < (s.length : Int) := by omega
    by_cases hlt : lvA Z s[i] < 1
    · have HZN : Bx (Z id = none) := ⟨by
        cases hy : Z id with
        | none => rfl
        | some y =>
          obtain ⟨n, e1, e2, _⟩ := full_num HOK.out HZ.out hy
          obtain ⟨b, hb, hbe, hbw⟩ := can_in HOK.out ((full_can HZ.out id).1 (by rw [hy]; rfl))
          have : b = s[i] := by
            obtain ⟨m, hm, rfl⟩ := List.mem_iff_getElem.1 hb
            have := st_ids HOK.out hm hi (hbe.trans hae.symm)
            subst this
            rfl
          subst this
          unfold lvA at hlt
          rw [hbw, hae, hy] at hlt
          simp only [Bool.false_eq_true, if_false] at hlt
          omega⟩
      clear hlev hM3 HM HS HPL HOK hcc ha
      generalize lvA Z s[i] = z at *
      go_wp2
      exact bodyPost_ret (v := .tuple #[.slice none 0 0, .bool false]) (by simp [results, Try.results28, go_sem]) rfl ⟨Z, HZ.out, .inl ⟨HZN.out, rfl⟩, B3.out.1⟩
    · obtain ⟨y, hy, hyl⟩ : ∃ y, Z id = some y ∧ lvA Z s[i] = y.1 := by
        unfold lvA at hlt ⊢
        cases hw : s[i].awake with
        | true => rw [hw] at hlt; simp at hlt
        | false =>
          rw [hw, hae] at hlt
          cases hy : Z id with
          | none => rw [hy] at hlt; simp at hlt
          | some y => exact ⟨y, rfl, by simp [hae, hy]⟩
      obtain ⟨n, hn1, hn2, hn3⟩ := full_num HOK.out HZ.out hy
      obtain ⟨y1, l⟩ := y
      simp only at hn1 hyl
      subst hn1
      rw [hyl] at cl hlt
      have HY : Bx (Z id = some ((n : Int), l)) := ⟨hy⟩
      have HW : Bx (Ways s Z) := ⟨full_ways HOK.out HZ.out⟩
      have H64 : Bx (∀ x ∈ lkZ s Z, Lk64 x) := ⟨HM.out.k64⟩
      -- where the way's link stands
      have HAT : Bx (∀ j, j < n → ∃ i, ∃ hi : i < s.length, s[i].id = (yAt Z j ((n : Int), l)).2.woken ∧ plI s (yAt Z j ((n : Int), l)).2.woken = i ∧ (lkZ s Z)[i]? = some (yAt Z j ((n : Int), l)).2 ∧ I64 (yAt Z j ((n : Int), l)).2.woken) := ⟨fun j hj => by
        obtain ⟨_, e2⟩ := yat_ways HW.out HY.out hn2 j hj
        obtain ⟨b, hb, hbe, _⟩ := can_in HOK.out ((full_can HZ.out _).1 (by rw [e2]; rfl))
        obtain ⟨m, hm, rfl⟩ := List.mem_iff_getElem.1 hb
        refine ⟨m, hm, hbe, pl_in HOK.out hm hbe, ?_, by rw [← hbe]; exact (HS.out.a64 _ hb).id⟩
        unfold lkZ
        rw [List.getElem?_map, List.getElem?_eq_getElem hm]
        simp only [Option.map_some]
        congr 1
        unfold lkA2
        rw [hbe, e2]⟩
      have HWK : Bx (∀ j, j + 1 < n → (yAt Z j ((n : Int), l)).2.waker = (yAt Z (j + 1) ((n : Int), l)).2.woken) := ⟨fun j hj => by
        have := ((chain_info HW.out HY.out hn2).2.2.1 (n - 2 - j) (by omega)).1
        unfold lkP at this
        rw [show n - 1 - (n - 2 - j + 1) = j by omega, show n - 1 - (n - 2 - j) = j + 1 by omega] at this
        exact this⟩
      have HLS : Bx (∀ j, j < n → (chL Z n ((n : Int), l)).drop (n - (j + 1)) = (yAt Z j ((n : Int), l)).2 :: (chL Z n ((n : Int), l)).drop (n - j)) := ⟨fun j hj => by
        have hlen : (chL Z n ((n : Int), l)).length = n := by simp [chL]
        rw [List.drop_eq_getElem_cons (by omega), show n - (j + 1) + 1 = n - j by omega]
        congr 1
        simp only [chL, List.getElem_map, List.getElem_range]
        rw [show n - 1 - (n - (j + 1)) = j by omega]⟩
      have HC6 : Bx (∀ j, j ≤ n → ∀ x ∈ (chL Z n ((n : Int), l)).drop (n - j), Lk64 x) := ⟨fun j => by
        induction j with
        | zero =>
          intro _ x hx
          rw [Nat.sub_zero, List.drop_of_length_le (by simp [chL])] at hx
          cases hx
        | succ j ih =>
          intro hj x hx
          rw [HLS.out j (by omega)] at hx
          rcases List.mem_cons.1 hx with rfl | hx
          · obtain ⟨i, hi, _, _, e, _⟩ := HAT.out j (by omega)
            exact H64.out _ (List.mem_of_getElem? e)
          · exact ih (by omega) x hx⟩
      have hw0 : (yAt Z 0 ((n : Int), l)).2.woken = id := by
        obtain ⟨k, _, _, e, _⟩ := HW.out.one id _ hy
        exact e
      have HPI : Bx (plI s (yAt Z 0 ((n : Int), l)).2.woken = (i : Int)) := ⟨by rw [hw0]; exact pl_in HOK.out hi hae⟩
      obtain ⟨M, hMM⟩ : ∃ M, w2.heap.size = M := ⟨_, rfl⟩
      have HI0 : Bx (∃ q d, (.slice none 0 0 : Value) = .slice q ((chL Z n ((n : Int), l)).drop (n - 0)).length d ∧ LksR w3 q d ((chL Z n ((n : Int), l)).drop (n - 0)) ∧ Below M w2 w3) := ⟨none, 0, by rw [Nat.sub_zero, List.drop_of_length_le (by simp [chL])]; rfl, by rw [Nat.sub_zero, List.drop_of_length_le (by simp [chL])]; exact ⟨by simp, by simp [maxLen], fun i hi => by cases hi⟩, by rw [← hMM]; exact B3.out.2⟩
      have hn4 : n ≤ 4096 := hn3
      clear hlev hM3 hw0 ha hcc
      go_wp2
      go_loopg [8, 9, 10] (n + 1) (fun g v8 v9 v10 wr => ∃ (j : Nat) (at_ : Int) (vv : Value), g = n + 1 - j ∧ j ≤ n ∧ v10 = .int .i64 ((n : Int) - (j : Nat)) ∧ v8 = .int .i64 at_ ∧ vv = v9 ∧ Bx (j < n → at_ = plI s (yAt Z j ((n : Int), l)).2.woken) ∧ Bx (∃ q d, vv = .slice q ((chL Z n ((n : Int), l)).drop (n - j)).length d ∧ LksR wr q d ((chL Z n ((n : Int), l)).drop (n - j)) ∧ Below M w2 wr))
      case atStart => exact ⟨0, _, _, by simp, by omega, by simp, rfl, rfl, ⟨fun _ => HPI.out.symm⟩, HI0⟩
      case round =>
        obtain ⟨j, at_, vv, hg, hjn, rfl, rfl, rfl, HA, HI⟩ := hrel
        clear HI0 HPI
        obtain ⟨q, d, hvv, hL, hb⟩ := HI.out
        subst hvv
        have HL : Bx _ := ⟨hL⟩
        have HB : Bx (Below M w2 wr) := ⟨hb⟩
        clear HI hL hb
        by_cases hlt2 : j < n
        · obtain ⟨m, hm, e1, e2, e3, e4⟩ := HAT.out j hlt2
          have hat : at_ = (m : Int) := by rw [HA.out hlt2, e2]
          subst hat
          have hMr := HM.out.later rfl (show Below w2.heap.size w2 wr by rw [hMM]; exact HB.out)
          have hlnk := hMr.lnk
          rw [hMr.n5] at hlnk
          have hcap := own_caps' hlnk
          have hg2 : ∃ g5, g2 = some ⟨g5, 0, none⟩ := by
            rcases hlnk.2 with ⟨_, q⟩ | ⟨g, cap, cur, q, _⟩
            · omega
            · simp only [Value.slice.injEq] at q; exact ⟨g, q.1⟩
          obtain ⟨g5, hg5⟩ := hg2
          have hln : (chL Z n ((n : Int), l)).length = n := by simp [chL]
          have hx64 := H64.out _ (List.mem_of_getElem? e3)
          obtain ⟨k, hk⟩ : ∃ k, k = ((chL Z n ((n : Int), l)).drop (n - j)).length := ⟨_, rfl⟩
          have hkj : k = j := by rw [hk, List.length_drop, hln]; omega
          have hCM := ch_more HL.out (HC6.out j (by omega)) _ hx64 k hk (by omega)
          rw [← HLS.out j hlt2] at hCM
          obtain ⟨x, hx⟩ : ∃ x, (yAt Z j ((n : Int), l)).2 = x := ⟨_, rfl⟩
          have HWJ : Bx (j + 1 < n → x.waker = (yAt Z (j + 1) ((n : Int), l)).2.woken) := ⟨fun h => by rw [← hx]; exact HWK.out j h⟩
          rw [hx] at hCM e3 hx64
          obtain ⟨z0, z1, z2⟩ := lksC_get' (lkZ s Z) m x e3
          rw [hg5] at hlnk
          have k0 : wr.cell? ⟨g5, m * 3, none⟩ = some (.int .i64 x.waker) := owns_cellj hlnk z0
          have k1 : wr.cell? ⟨g5, m * 3 + 1, none⟩ = some (.int .i64 x.woken) := owns_cellj hlnk z1
          have k2 : wr.cell? ⟨g5, m * 3 + 2, none⟩ = some (.int .i64 x.chan) := owns_cellj hlnk z2
          have hMl : M ≤ wr.heap.size := by rw [← hMM]; exact HB.out.size
          obtain ⟨q', d', W3, r3, hL3, hb3⟩ := hCM
          have hbW : Below M w2 W3 := HB.out.trans (hb3.mono hMl)
          have hMW := HM.out.later rfl (show Below w2.heap.size w2 W3 by rw [hMM]; exact hbW)
          have hlW := hMW.lnk
          rw [hMW.n5, hg5] at hlW
          have kw : W3.cell? ⟨g5, m * 3, none⟩ = some (.int .i64 x.waker) := owns_cellj hlW z0
          have hl3 : ((chL Z n ((n : Int), l)).drop (n - (j + 1))).length = k + 1 := by rw [List.length_drop, hln]; omega
          have HN3 : Bx (∃ q d, (.slice q' (k + 1) d' : Value) = .slice q ((chL Z n ((n : Int), l)).drop (n - (j + 1))).length d ∧ LksR W3 q d ((chL Z n ((n : Int), l)).drop (n - (j + 1))) ∧ Below M w2 W3) := ⟨q', d', by rw [hl3], hL3, hbW⟩
          have hB3 : Bx (Below w.heap.size w W3) := ⟨B2.out.trans (hbW.mono (by rw [← hMM]; exact B2.out.size))⟩
          subst hg5
          rw [← hk]
          have hm0 : (0 : Int) ≤ (m : Int) := by omega
          have hm1 : (m : Int) < (s.length : Int) := by omega
          have hjp : (0 : Int) < (n : Int) - (j : Nat) := by omega
          have hxw := hx64.1
          clear hMr hlnk hMW hlW hL3 hb3 hbW e3 z0 z1 z2 hk hkj hx hx64 HL
          obtain ⟨xr, xn, xc⟩ := x
          simp only at *
          by_cases hgo : j + 1 < n
          · have hj1 : (1 : Int) < (n : Int) - (j : Nat) := by omega
            go_wp2_with (first
              | (at_builtin; refine wpList_appI rfl (.tmp 43) (.tmp 44) 36 rfl rfl rfl r3 ?_)
              | (go_at_call 52; refine Calls.mono (HPL.out W3 xr hB3.out hxw) ?_; rintro e w9 ⟨rfl, hb9⟩; have HN9 : Bx (∃ q d, (.slice q' (k + 1) d' : Value) = .slice q ((chL Z n ((n : Int), l)).drop (n - (j + 1))).length d ∧ LksR w9 q d ((chL Z n ((n : Int), l)).drop (n - (j + 1))) ∧ Below M w2 w9) := (by obtain ⟨qa, da, ea, eb, ec⟩ := HN3.out; exact ⟨qa, da, ea, eb.later hb9, ec.trans (hb9.mono (by rw [← hMM]; exact ec.size))⟩); clear hb9))
            go_roundg (n + 1 - (j + 1))
            case measure => omega
            case rel => exact ⟨j + 1, _, _, rfl, by omega, by congr 1; omega, rfl, rfl, ⟨fun h => by rw [HWJ.out h]⟩, HN9⟩
          · have hj1 : ¬ (1 : Int) < (n : Int) - (j : Nat) := by omega
            go_wp2_with (first
              | (at_builtin; refine wpList_appI rfl (.tmp 43) (.tmp 44) 36 rfl rfl rfl r3 ?_))
            go_roundg (n + 1 - (j + 1))
            case measure => omega
            case rel => exact ⟨j + 1, _, _, rfl, by omega, by congr 1; omega, rfl, rfl, ⟨fun h => absurd h hgo⟩, HN3⟩
        · have hje : j = n := by omega
          subst hje
          have e0 : (chL Z j ((j : Int), l)).drop (j - j) = chL Z j ((j : Int), l) := by rw [Nat.sub_self, List.drop_zero]
          have HL2 : Bx (LksR wr q d (chL Z j ((j : Int), l))) := ⟨by have := HL.out; rw [e0] at this; exact this⟩
          rw [e0]
          have hjz : ¬ (0 : Int) < (j : Int) - (j : Nat) := by omega
          have HBE : Bx (Below w.heap.size w wr) := ⟨B2.out.trans (HB.out.mono (by rw [← hMM]; exact B2.out.size))⟩
          clear HL e0 HAT HWK HLS HC6
          go_wp2
          exact bodyPost_ret (v := .tuple #[.slice q (chL Z j ((j : Int), l)).length d, .bool true]) (by simp [results, Try.results28, go_sem]) rfl ⟨Z, HZ.out, .inr ⟨j, l, q, d, HY.out, hn2, by omega, rfl, HL2.out⟩, HBE.out⟩
  · have hpl : plI s id = -1 := pl_out fun a ha e => hin ⟨a, ha, e⟩
    rw [hpl]
    have HZN : Bx (Z id = none) := ⟨by
      cases hy : Z id with
      | none => rfl
      | some y =>
        obtain ⟨b, hb, hbe, _⟩ := can_in HOK.out ((full_can HZ.out id).1 (by rw [hy]; rfl))
        exact absurd ⟨b, hb, hbe⟩ hin⟩
    clear HM HS HPL HOK
    go_wp2
    exact bodyPost_ret (v := .tuple #[.slice none 0 0, .bool false]) (by simp [results, Try.results28, go_sem]) rfl ⟨Z, HZ.out, .inl ⟨HZN.out, rfl⟩, B3.out.1⟩
end Go.Proofs.Ytjabdhmkibahlaa
