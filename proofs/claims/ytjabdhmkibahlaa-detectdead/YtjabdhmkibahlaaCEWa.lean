import Derived.Test.YtjabdhmkibahlaaCXL
import Derived.ArgAppend
import Derived.Test.YtjabdhmkibahlaaCRfP
import Derived.Test.YtjabdhmkibahlaaCXS
namespace Go.Proofs.Ytjabdhmkibahlaa
open Go.RowKit Go.MapKept Go.ChangeMaps Go.WideShapes
set_option linter.unusedVariables false
set_option linter.unusedSimpArgs false

structure ShA (w W1 : World) : Prop where
  bel : Below w.heap.size w W1
  siz : W1.heap.size = w.heap.size + 3
  b0 : W1.heap[w.heap.size]? = some (.cells #[iV 3, .bool false] 58 (0, 0))
  b1 : W1.heap[w.heap.size + 1]? = some (.cells #[iV 3] 3 (0, 0))
  b2 : W1.heap[w.heap.size + 2]? = some (.cells #[iV 0, .bool false, pS w.heap.size 1, pS (w.heap.size + 1) 1] 53 (0, 0))
theorem sh_start (w : World) : ShA w (((w.alloc (.cells #[.int .i64 3, .bool false] 58)).alloc (.cells #[.int .i64 3] 3)).alloc (.cells #[.int .i64 0, .bool false, .slice (some ⟨w.heap.size, 0, none⟩) 1 1, .slice (some ⟨w.heap.size + 1, 0, none⟩) 1 1] 53)) := by
  refine ⟨(((Below.refl _ _).alloc (by simp) _).alloc (by simp) _).alloc (by simp <;> omega) _, by simp, ?_, ?_, ?_⟩ <;> simp only [iV, pS] <;> repeat (first | exact alloc_at (by simp) | refine up ?_)
/-- what came of the append -/
theorem sh_more {w W1 w2 W3 w4 : World} {v : Value} (h : ShA w W1) (hb : Below W1.heap.size W1 w2) (h3 : (w2.alloc (.cells #[.int .i64 3] 3)).alloc (.cells #[.int .i64 1, .bool true, .slice none 0 0, .slice (some ⟨w2.heap.size, 0, none⟩) 1 1] 53) = W3) (ho : w4.ownsRow W3.heap.size 53 4 v 2 (cA w.heap.size (w.heap.size + 1) ++ cB w2.heap.size)) (hg : W3.grownBy w4 none) : (∃ gg gc, v = .slice (some ⟨gg, 0, none⟩) 2 gc ∧ 2 ≤ gc ∧ gc ≤ 9223372036854775807 ∧ AgsR w4 (some ⟨gg, 0, none⟩) gc exB) ∧ Below w2.heap.size w2 w4 := by
  have hb3 : Below w2.heap.size w2 W3 := by rw [← h3]; exact two_new _ _ _
  have hb4 : Below w2.heap.size w2 w4 := hb3.grown hg hb3.size (fun k e => by cases e)
  have hs := h.siz
  have hz := hb.size
  have hk : ∀ {g : Nat} {o : Obj}, W1.heap[g]? = some o → w4.heap[g]? = some o := fun {g o} e => by
    have hl := (Array.getElem?_eq_some_iff.1 e).1
    rw [hb4.block g (by omega), hb.block g hl]
    exact e
  have h2 : w4.heap[w2.heap.size]? = some (.cells #[iV 3] 3 (0, 0)) := by
    have e : W3.heap[w2.heap.size]? = some (.cells #[iV 3] 3 (0, 0)) := by rw [← h3]; exact up (World.alloc_heap_new _ _)
    rw [hg.block _ (Array.getElem?_eq_some_iff.1 e).1 (by simp)]
    exact e
  refine ⟨?_, hb4⟩
  rcases ho.2 with ⟨_, x⟩ | ⟨g, cap, cur, rfl, _, _, x4, x5, _⟩
  · cases x
  · exact ⟨g, cap, rfl, x4, by unfold maxLen at x5; omega, shB_read (hk h.b0) (hk h.b1) h2 ho⟩
theorem sh_olds {w W1 w2 : World} (h : ShA w W1) (hb : Below W1.heap.size W1 w2) (o o' : Obj) : ∀ j u, (cA w.heap.size (w.heap.size + 1))[j]? = some u → ((w2.alloc o).alloc o').cell? ⟨w.heap.size + 1 + 1, 0 + j, none⟩ = some u := fun j u hu => by
  have e := (hb.block _ (Array.getElem?_eq_some_iff.1 h.b2).1).trans h.b2
  rw [Nat.zero_add]
  refine cell_of (up (up e)) ?_
  rw [← Array.getElem?_toList]
  exact hu
theorem sh_far {a b c d : World} (h1 : Below a.heap.size a b) (h2 : Below b.heap.size b c) (h3 : Below c.heap.size c d) (o : Obj) : Below a.heap.size a (d.alloc o) := by
  have h12 := h1.trans (h2.mono h1.size)
  have h13 := h12.trans (h3.mono h12.size)
  exact h13.trans ((below1 _ _).mono h13.size)
theorem sh_end {w W1 w2 w4 w5 w6 w7 w8 : World} (h : ShA w W1) (h2 : Below W1.heap.size W1 w2) (h4 : Below w2.heap.size w2 w4) (h5 : Below w4.heap.size w4 w5) (h6 : Below w5.heap.size w5 w6) (h7 : Below w6.heap.size w6 w7) (h8 : Below w7.heap.size w7 w8) : Below w.heap.size w w8 := by
  have a1 := h.bel
  have a2 := a1.trans (h2.mono a1.size)
  have a3 := a2.trans (h4.mono a2.size)
  have a4 := a3.trans (h5.mono a3.size)
  have a5 := a4.trans (h6.mono a4.size)
  have a6 := a5.trans (h7.mono a5.size)
  exact a6.trans (h8.mono a6.size)
theorem cB_one (g : Nat) : ∀ u ∈ cB g, u.oneCell' = true := fun u hu => by
  unfold cB at hu
  simp only [List.mem_cons, List.not_mem_nil, or_false] at hu
  rcases hu with rfl | rfl | rfl | rfl <;> rfl
theorem int0 (X : World) : IntsR (X.alloc (.cells #[.int .i64 0] 3)) (some ⟨X.heap.size, 0, none⟩) 1 [0] := ints_read (l := [0]) (own_blk (n := 1) (z := 1) (World.alloc_heap_new X (.cells #[.int .i64 0] 3)) rfl (by decide)) (fun x hx => by
  rw [List.mem_singleton.1 hx]
  exact ⟨by decide, by decide⟩)
theorem lk1 (X : World) : LksR (X.alloc (.cells #[.int .i64 1, .int .i64 0, .int .i64 3] 24)) (some ⟨X.heap.size, 0, none⟩) 1 [⟨1, 0, 3⟩] := by
  obtain ⟨p, c, e, h⟩ := lks_read (l := [⟨1, 0, 3⟩]) (own_blk (n := 1) (z := 3) (World.alloc_heap_new X (.cells #[.int .i64 1, .int .i64 0, .int .i64 3] 24)) rfl (by decide)) (fun x hx => by
    rw [List.mem_singleton.1 hx]
    exact ⟨⟨by decide, by decide⟩, ⟨by decide, by decide⟩, ⟨by decide, by decide⟩⟩)
  injection e with x1 x2 x3
  subst x1 x3
  exact h
set_option maxRecDepth 100000 in
set_option maxHeartbeats 1000000 in
theorem shown15_any (w : World) : Calls Try.prog 23 #[] w fun e w' => e = .returned (.bool true) ∧ Below w.heap.size w w' := by
  obtain ⟨i0, hi, iz0, iz1, iz2⟩ := info_parts infoG
  have HA : Bx _ := ⟨sh_start w⟩
  obtain ⟨W1, hW1⟩ : ∃ W1, ((w.alloc (.cells #[.int .i64 3, .bool false] 58)).alloc (.cells #[.int .i64 3] 3)).alloc (.cells #[.int .i64 0, .bool false, .slice (some ⟨w.heap.size, 0, none⟩) 1 1, .slice (some ⟨w.heap.size + 1, 0, none⟩) 1 1] 53) = W1 := ⟨_, rfl⟩
  rw [hW1] at HA
  have HW1 : Bx (_ = W1) := ⟨hW1⟩
  clear hW1
  go_enter Try.func23, Try.ntmps23
  go_wp2_with (first
    | (go_at_call 25; rw [HW1.out]; refine Calls.mono (deadA (shA_read HA.out.b0 HA.out.b1 HA.out.b2)) ?_; rintro e w2 ⟨q2, d2, rfl, hi2, hb2⟩; have I2 : Bx (IntsR w2 q2 d2 [0] ∧ Below W1.heap.size W1 w2) := ⟨hi2, hb2⟩; clear hi2 hb2 HW1)
    | (go_at_call 25; refine Calls.mono (deadB I4.out.1) ?_; rintro e w5 ⟨q5, d5, rfl, hb5⟩; have I5 : Bx (Below w4.heap.size w4 w5) := ⟨hb5⟩; clear hb5)
    | (at_builtin; refine wpList_append_arg _ rfl (.tmp 19) (.tmp 22) 22 rfl 53 i0 (.agg #[.int .i64 0, .bool false, .slice none 0 0, .slice none 0 0]) 4 64 Try.underlying22 hi iz0 iz1 iz2 rfl (by decide) (w.heap.size + 1 + 1) 0 1 1 (cA w.heap.size (w.heap.size + 1)) rfl rfl (sh_olds HA.out I2.out.2 _ _) ⟨w2.heap.size + 1, 0, none⟩ 1 1 (cB w2.heap.size) rfl rfl (block_cells _ _ _ 53 (alloc_at (by simp))) (cB_one _) (fun h => by omega) (by unfold maxLen; omega) (by omega) (fun h => by omega) (fun _ v4 w4 ho4 hg4 => ?_); obtain ⟨⟨gg, gc, rfl, hc1, hc2, hA4⟩, hb4⟩ := sh_more HA.out I2.out.2 rfl ho4 hg4; have I4 : Bx (AgsR w4 (some ⟨gg, 0, none⟩) gc exB ∧ Below w2.heap.size w2 w4) := ⟨hA4, hb4⟩; clear ho4 hg4 hA4 hb4)
    | (go_at_call 27; refine Calls.mono (chainB (I4.out.1.later I5.out)) ?_; rintro e w6 ⟨q6, d6, rfl, hl6, hb6⟩; have I6 : Bx (LksR w6 q6 d6 [⟨1, 0, 3⟩] ∧ Below w5.heap.size w5 w6) := ⟨hl6, hb6⟩; clear hl6 hb6)
    | (go_at_call 29; refine Calls.mono (numbers_yes _ q2 (some ⟨w6.heap.size, 0, none⟩) d2 1 [0] (I2.out.1.later (sh_far I4.out.2 I5.out I6.out.2 _)) (int0 w6)) ?_; rintro e w7 ⟨rfl, k7, hk7⟩; have I7 : Bx (Below w6.heap.size w6 w7) := ⟨by rw [hk7]; exact below_drewN (below1 _ _) k7⟩; clear hk7)
    | (go_at_call 30; refine Calls.mono (chains_yes _ q6 (some ⟨w7.heap.size, 0, none⟩) d6 1 [⟨1, 0, 3⟩] (I6.out.1.later (I7.out.trans ((below1 _ _).mono I7.out.size))) (lk1 w7)) ?_; rintro e w8 ⟨rfl, k8, hk8⟩; have I8 : Bx (Below w7.heap.size w7 w8) := ⟨by rw [hk8]; exact below_drewN (below1 _ _) k8⟩; clear hk8))
  go_ret
  exact ⟨rfl, sh_end HA.out I2.out.2 I4.out.2 I5.out I6.out.2 I7.out I8.out⟩
end Go.Proofs.Ytjabdhmkibahlaa
namespace Go.Proofs.Ytjabdhmkibahlaa
open Go.RowKit
set_option linter.unusedVariables false
set_option linter.unusedSimpArgs false

/-! ### a place among some -/
set_option maxRecDepth 100000 in
theorem among_any (w : World) (i : Int) (n : Nat) (hi : I64 i) (hn : 1 ≤ n) (hm : n ≤ 4611686018427387904) : Calls Try.prog 32 #[.int .i64 i, .int .i64 (n : Int)] w fun e w' => (∃ j : Nat, j < n ∧ e = .returned (.int .i64 (j : Int))) ∧ w' = w := by
  have h1 : (i.tmod n).natAbs < n := by
    rw [Int.natAbs_tmod]
    exact Nat.mod_lt _ (by simp only [Int.natAbs_natCast]; omega)
  obtain ⟨r, hr⟩ : ∃ r, i.tmod n = r := ⟨_, rfl⟩
  rw [hr] at h1
  have h0 : ¬ (n : Int) < 1 := by omega
  have h2 : (n : Int) ≠ 0 := by omega
  by_cases hneg : r < 0
  · go_enter Try.func32, Try.ntmps32
    go_wp2
    go_ret
    exact ⟨⟨(r + n).toNat, by omega, by rw [Int.toNat_of_nonneg (by omega)]; rfl⟩, rfl⟩
  · go_enter Try.func32, Try.ntmps32
    go_wp2
    go_ret
    exact ⟨⟨r.toNat, by omega, by rw [Int.toNat_of_nonneg (by omega)]; rfl⟩, rfl⟩
end Go.Proofs.Ytjabdhmkibahlaa
namespace Go.Proofs.Ytjabdhmkibahlaa
open Go.RowKit
set_option linter.unusedVariables false
set_option linter.unusedSimpArgs false

/-! ### what Dead and Chain of the program and of the reference answer -/
def DdA (w : World) (D : List Int) (en : Int) (e : Ending) (w' : World) : Prop := ∃ q d, e = .returned (.tuple #[.slice q D.length d, .int .i64 en]) ∧ IntsR w' q d D ∧ Below w.heap.size w w' ∧ w'.ownsRow w.heap.size 3 1 (.slice q D.length d) D.length (rowC D)
def ChA (w : World) (L : List Lk) (b : Bool) (e : Ending) (w' : World) : Prop := ∃ q d, e = .returned (.tuple #[.slice q L.length d, .bool b]) ∧ LksR w' q d L ∧ Below w.heap.size w w' ∧ w'.ownsRow w.heap.size 24 3 (.slice q L.length d) L.length (lksC L)
def ChB (w : World) (L : List Lk) (b : Bool) (e : Ending) (w' : World) : Prop := ∃ q d, e = .returned (.tuple #[.slice q L.length d, .bool b]) ∧ LksR w' q d L ∧ Below w.heap.size w w'
structure DAns (s : List Ag) (D : List Int) (en : Int) (ch : Int → List Lk) (ok : Int → Bool) : Prop where
  dead : ∀ W p c, AgsR W p c s → Calls Try.prog 25 #[.slice p s.length c] W (DdA W D en)
  rdead : ∀ W p c, AgsR W p c s → Calls Try.prog 26 #[.slice p s.length c] W (DdA W D en)
  chain : ∀ W p c id, AgsR W p c s → I64 id → Calls Try.prog 27 #[.slice p s.length c, .int .i64 id] W (ChA W (ch id) (ok id))
  rchain : ∀ W p c id, AgsR W p c s → I64 id → Calls Try.prog 28 #[.slice p s.length c, .int .i64 id] W (ChB W (ch id) (ok id))
  len : D.length ≤ 4096
  i64 : ∀ x ∈ D, I64 x
  clen : ∀ id, (ch id).length ≤ 4097
  c64 : ∀ id, ∀ x ∈ ch id, Lk64 x
theorem ints_none (w : World) : IntsR w none 0 [] := ⟨by simp, by simp [maxLen], fun i hi => by cases hi⟩
theorem lks_none (w : World) : LksR w none 0 [] := ⟨by simp, by simp [maxLen], fun i hi => by cases hi⟩
def chZ (Z : Int → Option Wy) (id : Int) : List Lk := match Z id with
  | none => []
  | some y => chL Z y.1.toNat y
theorem LksR.i64 {w : World} {p : Option Addr} {c : Nat} {l : List Lk} (h : LksR w p c l) : ∀ x ∈ l, Lk64 x := fun x hx => by
  obtain ⟨j, hj, rfl⟩ := List.getElem_of_mem hx
  obtain ⟨_, _, _, h6, _⟩ := h.at_ j hj
  exact h6
theorem ans_of (s : List Ag) (w : World) (p : Option Addr) (c : Nat) (hs : AgsR w p c s) (ht : totA s ≤ 2147483647) : ∃ D en ch ok, DAns s D en ch ok := by
  cases hok : stOk s with
  | false =>
    refine ⟨[], 140, fun _ => [], fun _ => false, ⟨fun W p c h => ?_, fun W p c h => ?_, fun W p c id h hid => ?_, fun W p c id h hid => ?_, by simp, (fun x h => by cases h), fun id => by simp, fun id x h => by cases h⟩⟩
    · refine (Dead_no W p c s h ht hok).mono ?_
      rintro e w' ⟨rfl, hb⟩
      exact ⟨none, 0, rfl, ints_none _, hb, rfl, .inl ⟨rfl, rfl⟩⟩
    · refine (rDead_no W p c s h ht hok).mono ?_
      rintro e w' ⟨rfl, hb⟩
      exact ⟨none, 0, rfl, ints_none _, hb, rfl, .inl ⟨rfl, rfl⟩⟩
    · refine (Chain_no W p c s id h ht hok).mono ?_
      rintro e w' ⟨rfl, hb⟩
      exact ⟨none, 0, rfl, lks_none _, hb, rfl, .inl ⟨rfl, rfl⟩⟩
    · refine (rChain_no W p c s id h hok).mono ?_
      rintro e w' ⟨rfl, hb⟩
      exact ⟨none, 0, rfl, lks_none _, hb⟩
  | true =>
    obtain ⟨Z, hZ, _, _⟩ := lvs_full hok
    have hch : ∀ id (n : Nat) (l : Lk), Z id = some ((n : Int), l) → chZ Z id = chL Z n ((n : Int), l) := fun id n l h => by unfold chZ; rw [h]; rfl
    have h64 : ∀ x ∈ ddL Z s, I64 x := fun x hx => by
      obtain ⟨a, ha, rfl⟩ := List.mem_map.1 hx
      exact (hs.a64 a (List.mem_filter.1 ha).1).id
    have hcl : ∀ id, (chZ Z id).length ≤ 4097 := fun id => by
      cases hy : Z id with
      | none => unfold chZ; rw [hy]; simp
      | some y =>
        obtain ⟨n, e, _, e2⟩ := full_num hok hZ hy
        unfold chZ
        rw [hy]
        simp [chL, e]
        omega
    have hc6 : ∀ id, ∀ x ∈ chZ Z id, Lk64 x := fun id => by
      cases hy : Z id with
      | none => unfold chZ; rw [hy]; intro x hx; cases hx
      | some y =>
        obtain ⟨k, A, N, h1, h2⟩ := hZ
        have hk : ∀ id y, Z id = some y → Lk64 y.2 := fun id y hy => by
          obtain ⟨hwk, _⟩ := (lvl_wk h1).2.1 id y hy
          obtain ⟨_, hsrc⟩ := lvl_src h1
          rcases hsrc id y hy with e | ⟨a, ha, x, hx, e1, e2⟩
          · rw [e]; exact lk00_64
          · have h6 := hs.a64 a ha
            exact ⟨wk_64 hs hwk, by rw [e1]; exact h6.id, by rw [e2]; exact h6.arms x hx⟩
        have hk0 : ∀ id, Lk64 (wy0 (Z id)).2 := fun id => by
          cases hz : Z id with
          | none => exact lk00_64
          | some y => exact hk id y hz
        unfold chZ
        rw [hy]
        intro x hx
        obtain ⟨j, _, rfl⟩ := List.mem_map.1 hx
        exact yAt_64 (hk id y hy) hk0 _
    refine ⟨ddL Z s, 0, chZ Z, fun id => (Z id).isSome, ⟨fun W p c h => ?_, fun W p c h => ?_, fun W p c id h hid => ?_, fun W p c id h hid => ?_, Nat.le_trans (ddL_len Z s) (st_len hok), h64, hcl, hc6⟩⟩
    · refine (Dead_ob W p c s h (Nat.le_trans ht (by decide)) hok).mono ?_
      rintro e w' ⟨Y, q, d, hY, rfl, h1, h2, h3⟩
      obtain rfl := full_det hY hZ
      exact ⟨q, d, rfl, h1, h2, h3⟩
    · refine (rDead_yes W p c s h ht hok).mono ?_
      rintro e w' ⟨Y, q, d, hY, rfl, h1, h2, h3⟩
      obtain rfl := full_det hY hZ
      exact ⟨q, d, rfl, h1, h2, h3⟩
    · refine (Chain_ob W p c s id h ht hid hok).mono ?_
      rintro e w' ⟨Y, hF, hc, hb⟩
      obtain ⟨hYZ, hid2⟩ := fdr_full hF hZ
      rcases hc with ⟨h1, rfl⟩ | ⟨n, l, q, d, h1, h2, h3, rfl, h4, h5⟩
      · have hz : Z id = none := hid2 ▸ h1
        have e1 : chZ Z id = [] := by unfold chZ; rw [hz]
        rw [e1]
        simp only [hz, Option.isSome_none]
        exact ⟨none, 0, rfl, lks_none _, hb, rfl, .inl ⟨rfl, rfl⟩⟩
      · have hz : Z id = some ((n : Int), l) := hid2 ▸ h1
        have e1 : chZ Z id = chL Y n ((n : Int), l) := by rw [hch id n l hz]; exact (chain_same (fdr_ways hok hF) hYZ h1 h2).symm
        rw [e1]
        simp only [hz, Option.isSome_some]
        exact ⟨q, d, rfl, h4, hb, h5⟩
    · refine (rChain_yes W p c s id h hid hok).mono ?_
      rintro e w' ⟨Y, hF, hc, hb⟩
      obtain rfl := full_det hF hZ
      rcases hc with ⟨h1, rfl⟩ | ⟨n, l, q, d, h1, h2, h3, rfl, h4⟩
      · have e1 : chZ Y id = [] := by unfold chZ; rw [h1]
        rw [e1]
        simp only [h1, Option.isSome_none]
        exact ⟨none, 0, rfl, lks_none _, hb⟩
      · rw [hch id n l h1]
        simp only [h1, Option.isSome_some]
        exact ⟨q, d, rfl, h4, hb⟩
theorem heavy7_no {w : World} {p : Option Addr} {c : Nat} {s : List Ag} (hs : AgsR w p c s) (hz : Lists s) (hsl : s.length ≤ 1152921504606846976) (ht : totA s ≤ 2147483647) : Calls Try.prog 22 #[.slice p s.length c] w fun e w' => e = .returned (.bool false) ∧ Below w.heap.size w w' := by
  refine (heavy_any w p c s hs hz hsl).mono ?_
  rintro e w' ⟨rfl, k, hk⟩
  rw [decide_eq_false (by omega)]
  exact ⟨rfl, by rw [hk]; exact below_drewN (Below.refl _ _) _⟩
theorem heavy7_yes {w : World} {p : Option Addr} {c : Nat} {s : List Ag} (hs : AgsR w p c s) (hz : Lists s) (hsl : s.length ≤ 1152921504606846976) (ht : ¬ totA s ≤ 2147483647) : Calls Try.prog 22 #[.slice p s.length c] w fun e w' => e = .returned (.bool true) ∧ Below w.heap.size w w' := by
  refine (heavy_any w p c s hs hz hsl).mono ?_
  rintro e w' ⟨rfl, k, hk⟩
  rw [decide_eq_true (by omega)]
  exact ⟨rfl, by rw [hk]; exact below_drewN (Below.refl _ _) _⟩
/-! ### what is written over -/
structure Wr7 (w W : World) (B : Nat) (va vb vc vw : Value) (xa xb D : List Int) (xc : List Lk) : Prop where
  ra : W.ownsRow B 3 1 va xa.length (rowC xa)
  rb : W.ownsRow B 3 1 vb xb.length (rowC xb)
  rc : W.ownsRow B 24 3 vc xc.length (lksC xc)
  rw_ : W.ownsRow B 3 1 vw D.length (rowC D)
  ab : ∀ g, va.ownBlock = some g → vb.ownBlock ≠ some g
  aw : ∀ g, va.ownBlock = some g → vw.ownBlock ≠ some g
  bw : ∀ g, vb.ownBlock = some g → vw.ownBlock ≠ some g
  bel : Below B w W
  sz : B ≤ W.heap.size
theorem Wr7.later {w W W' : World} {B : Nat} {va vb vc vw : Value} {xa xb D : List Int} {xc : List Lk} (h : Wr7 w W B va vb vc vw xa xb D xc) (hb : Below W.heap.size W W') : Wr7 w W' B va vb vc vw xa xb D xc := ⟨own_new h.ra hb, own_new h.rb hb, own_new h.rc hb, own_new h.rw_ hb, h.ab, h.aw, h.bw, h.bel.trans (hb.mono h.sz), Nat.le_trans h.sz hb.size⟩
theorem own_ne {W W' : World} {B s n g : Nat} {t : TypeId} {v : Value} {cs : List Value} (h : W.ownsRow B t s v n cs) (hoth : ∀ y, y ≠ g → W'.heap[y]? = W.heap[y]?) (hne : v.ownBlock ≠ some g) : W'.ownsRow B t s v n cs := own_same h fun y o hy ho => by
  rw [hoth y (fun e => hne (by rw [hy, e]))]
  exact ho
theorem kind_ne {W : World} {B B' s s' n n' : Nat} {t t' : TypeId} {v v' : Value} {cs cs' : List Value} (h : W.ownsRow B t s v n cs) (h' : W.ownsRow B' t' s' v' n' cs') (ht : t ≠ t') {g : Nat} (hg : v.ownBlock = some g) : v'.ownBlock ≠ some g := fun e => by
  obtain ⟨c1, f1, q1⟩ := owns_kind h g hg
  obtain ⟨c2, f2, q2⟩ := owns_kind h' g e
  rw [q1] at q2
  injection q2 with q2
  injection q2 with _ q2
  exact ht q2
theorem own_some {W : World} {B s n i : Nat} {t : TypeId} {v : Value} {cs : List Value} (h : W.ownsRow B t s v n cs) (hi : i < n) : ∃ g c, v = .slice (some ⟨g, 0, none⟩) n c ∧ n ≤ c := by
  rcases h.2 with ⟨_, q⟩ | ⟨g, cap, cur, q, _, _, q3, _⟩
  · omega
  · exact ⟨g, cap, q, q3⟩
set_option maxHeartbeats 1000000 in
/-- a number is written over -/
theorem Wr7.setA {w W : World} {B : Nat} {va vb vc vw : Value} {xa xb D : List Int} {xc : List Lk} (h : Wr7 w W B va vb vc vw xa xb D xc) {i : Nat} (hi : i < xa.length) (x : Int) :
    ∃ g c, va = .slice (some ⟨g, 0, none⟩) xa.length c ∧ xa.length ≤ c ∧ (∃ y, W.cell? ⟨g, i, none⟩ = some y) ∧ W.frozen? ⟨g, i, none⟩ = false ∧ Wr7 w (W.setCell ⟨g, i, none⟩ (.int .i64 x)) B va vb vc vw (xa.set i x) xb D xc := by
  have ha := h.ra
  obtain ⟨g, c, e, hc⟩ := own_some ha hi
  subst e
  have hcz := (Czb.of ha).1
  rw [Nat.mul_one] at hcz
  obtain ⟨hyy, hf⟩ := hcz.at_ hi
  have hoth : ∀ y, y ≠ g → (W.setCell ⟨g, i, none⟩ (.int .i64 x)).heap[y]? = W.heap[y]? := fun y hy => Below.heap_setCell W ⟨g, i, none⟩ _ y hy
  have hgB := owns_block ha (g := g) rfl
  refine ⟨g, c, rfl, hc, hyy, hf, ⟨?_, own_ne h.rb hoth (h.ab g rfl), own_ne h.rc hoth (kind_ne ha h.rc (by decide) rfl), own_ne h.rw_ hoth (h.aw g rfl), h.ab, h.aw, h.bw, h.bel.trans ((Below.refl B W).setCell (p := ⟨g, i, none⟩) hgB.1 _), by simpa using h.sz⟩⟩
  have e : rowC (xa.set i x) = (rowC xa).set i (.int .i64 x) := by unfold rowC; rw [List.map_set]
  rw [List.length_set, e]
  exact own_put ha i _
set_option maxHeartbeats 1000000 in
/-- a link is written over -/
theorem Wr7.setC {w W : World} {B : Nat} {va vb vc vw : Value} {xa xb D : List Int} {xc : List Lk} (h : Wr7 w W B va vb vc vw xa xb D xc) {i : Nat} (hi : i < xc.length) (l : Lk) :
    ∃ g c, vc = .slice (some ⟨g, 0, none⟩) xc.length c ∧ xc.length ≤ c ∧ W.there g (i * 3) 3 ∧ Wr7 w (W.setCells g (i * 3) [.int .i64 l.waker, .int .i64 l.woken, .int .i64 l.chan]) B va vb vc vw xa xb D (xc.set i l) := by
  have hcw := h.rc
  obtain ⟨g, c, e, hc⟩ := own_some hcw hi
  subst e
  have hcz := (Czb.of hcw).1
  have hoth : ∀ y, y ≠ g → (W.setCells g (i * 3) [.int .i64 l.waker, .int .i64 l.woken, .int .i64 l.chan]).heap[y]? = W.heap[y]? := fun y hy => by
    show (((W.setCell ⟨g, i * 3, none⟩ _).setCell ⟨g, i * 3 + 1, none⟩ _).setCell ⟨g, i * 3 + 1 + 1, none⟩ _).heap[y]? = _
    rw [Below.heap_setCell _ ⟨g, _, none⟩ _ y hy, Below.heap_setCell _ ⟨g, _, none⟩ _ y hy, Below.heap_setCell _ ⟨g, _, none⟩ _ y hy]
  have hgB := owns_block hcw (g := g) rfl
  refine ⟨g, c, rfl, hc, hcz.there3 (by omega), ⟨own_ne h.ra hoth (kind_ne hcw h.ra (by decide) rfl), own_ne h.rb hoth (kind_ne hcw h.rb (by decide) rfl), ?_, own_ne h.rw_ hoth (kind_ne hcw h.rw_ (by decide) rfl), h.ab, h.aw, h.bw, h.bel.trans ((((Below.refl B W).setCell (p := ⟨g, i * 3, none⟩) hgB.1 _).setCell (p := ⟨g, i * 3 + 1, none⟩) hgB.1 _).setCell (p := ⟨g, i * 3 + 1 + 1, none⟩) hgB.1 _), by
    show B ≤ (((W.setCell ⟨g, i * 3, none⟩ _).setCell ⟨g, i * 3 + 1, none⟩ _).setCell ⟨g, i * 3 + 1 + 1, none⟩ _).heap.size
    simpa using h.sz⟩⟩
  rw [List.length_set, lksC_set xc i hi]
  exact own_put (own_put (own_put hcw (i * 3) _) (i * 3 + 1) _) (i * 3 + 1 + 1) _
theorem far_ne {W : World} {B s n : Nat} {t : TypeId} {v : Value} {cs : List Value} (h : W.ownsRow B t s v n cs) {g : Nat} (hg : W.heap.size ≤ g) : v.ownBlock ≠ some g := fun e => by
  have := (owns_block h e).2
  omega
set_option maxHeartbeats 1000000 in
theorem Wr7.addA {w W : World} {B : Nat} {va vb vc vw : Value} {xa xb D : List Int} {xc : List Lk} (h : Wr7 w W B va vb vc vw xa xb D xc) (x : Int) (n : Nat) (hn : n = xa.length) (hl : n ≤ 8000) :
    ∃ g c W1, (∀ ty, (Builtin.append_ #[45, 45] ty #[va, .slice (some ⟨W.heap.size, 0, none⟩) 1 1]).run Try.prog (W.alloc (.cells #[.int .i64 x] 3)) = .ok (.slice (some ⟨g, 0, none⟩) (n + 1) c) W1) ∧ Wr7 w W1 B (.slice (some ⟨g, 0, none⟩) (n + 1) c) vb vc vw (xa ++ [x]) xb D xc := by
  subst hn
  obtain ⟨i0, hi0, iz0, iz1, iz2⟩ := info_parts infoI
  obtain ⟨g, c, W1, r, o, gr, _, hg⟩ := app1 Try.underlying45 hi0 iz0 iz1 iz2 rfl (by decide) W B va xa.length _ h.ra #[.int .i64 x] rfl (by simp [Value.oneCell']) (by unfold maxLen; omega) (by omega) h.sz
  have e : rowC (xa ++ [x]) = rowC xa ++ [.int .i64 x] := by simp [rowC]
  have hb := (Below.refl B W).grown gr h.sz fun k hk => (owns_block h.ra hk).1
  refine ⟨g, c, W1, r, ⟨by rw [e, List.length_append]; exact o, owns_gr h.rb gr (fun b hb e => h.ab b e hb), owns_gr h.rc gr (fun b hb e => kind_ne h.ra h.rc (by decide) e hb), owns_gr h.rw_ gr (fun b hb e => h.aw b e hb), fun k hk => ?_, fun k hk => ?_, h.bw, h.bel.trans hb, Nat.le_trans h.sz gr.size⟩⟩
  · simp only [Value.ownBlock, Option.some.injEq] at hk
    subst hk
    rcases hg with hg | hg
    · exact h.ab g hg
    · exact far_ne h.rb hg
  · simp only [Value.ownBlock, Option.some.injEq] at hk
    subst hk
    rcases hg with hg | hg
    · exact h.aw g hg
    · exact far_ne h.rw_ hg
set_option maxHeartbeats 1000000 in
theorem Wr7.addB {w W : World} {B : Nat} {va vb vc vw : Value} {xa xb D : List Int} {xc : List Lk} (h : Wr7 w W B va vb vc vw xa xb D xc) (x : Int) (n : Nat) (hn : n = xb.length) (hl : n ≤ 8000) :
    ∃ g c W1, (∀ ty, (Builtin.append_ #[45, 45] ty #[vb, .slice (some ⟨W.heap.size, 0, none⟩) 1 1]).run Try.prog (W.alloc (.cells #[.int .i64 x] 3)) = .ok (.slice (some ⟨g, 0, none⟩) (n + 1) c) W1) ∧ Wr7 w W1 B va (.slice (some ⟨g, 0, none⟩) (n + 1) c) vc vw xa (xb ++ [x]) D xc := by
  subst hn
  obtain ⟨i0, hi0, iz0, iz1, iz2⟩ := info_parts infoI
  obtain ⟨g, c, W1, r, o, gr, _, hg⟩ := app1 Try.underlying45 hi0 iz0 iz1 iz2 rfl (by decide) W B vb xb.length _ h.rb #[.int .i64 x] rfl (by simp [Value.oneCell']) (by unfold maxLen; omega) (by omega) h.sz
  have e : rowC (xb ++ [x]) = rowC xb ++ [.int .i64 x] := by simp [rowC]
  have hb := (Below.refl B W).grown gr h.sz fun k hk => (owns_block h.rb hk).1
  refine ⟨g, c, W1, r, ⟨owns_gr h.ra gr (fun b hb e => h.ab b hb e), by rw [e, List.length_append]; exact o, owns_gr h.rc gr (fun b hb e => kind_ne h.rb h.rc (by decide) e hb), owns_gr h.rw_ gr (fun b hb e => h.bw b e hb), fun k hk e2 => ?_, h.aw, fun k hk => ?_, h.bel.trans hb, Nat.le_trans h.sz gr.size⟩⟩
  · simp only [Value.ownBlock, Option.some.injEq] at e2
    subst e2
    rcases hg with hg | hg
    · exact h.ab g hk hg
    · exact far_ne h.ra hg hk
  · simp only [Value.ownBlock, Option.some.injEq] at hk
    subst hk
    rcases hg with hg | hg
    · exact h.bw g hg
    · exact far_ne h.rw_ hg
set_option maxHeartbeats 1000000 in
theorem Wr7.addC {w W : World} {B : Nat} {va vb vc vw : Value} {xa xb D : List Int} {xc : List Lk} (h : Wr7 w W B va vb vc vw xa xb D xc) (x : Lk) (n : Nat) (hn : n = xc.length) (hl : n ≤ 8000) :
    ∃ g c W1, (∀ ty, (Builtin.append_ #[36, 36] ty #[vc, .slice (some ⟨W.heap.size, 0, none⟩) 1 1]).run Try.prog (W.alloc (.cells #[.int .i64 x.waker, .int .i64 x.woken, .int .i64 x.chan] 24)) = .ok (.slice (some ⟨g, 0, none⟩) (n + 1) c) W1) ∧ Wr7 w W1 B va vb (.slice (some ⟨g, 0, none⟩) (n + 1) c) vw xa xb D (xc ++ [x]) := by
  subst hn
  obtain ⟨i0, hi0, iz0, iz1, iz2⟩ := info_parts infoL
  obtain ⟨g, c, W1, r, o, gr, _, hg⟩ := app1 Try.underlying36 hi0 iz0 iz1 iz2 rfl (by decide) W B vc xc.length _ h.rc #[.int .i64 x.waker, .int .i64 x.woken, .int .i64 x.chan] rfl (by simp [Value.oneCell']) (by unfold maxLen; omega) (by omega) h.sz
  have hb := (Below.refl B W).grown gr h.sz fun k hk => (owns_block h.rc hk).1
  exact ⟨g, c, W1, r, ⟨owns_gr h.ra gr (fun b hb e => kind_ne h.rc h.ra (by decide) e hb), owns_gr h.rb gr (fun b hb e => kind_ne h.rc h.rb (by decide) e hb), by rw [lksC_snoc1, List.length_append]; exact o, owns_gr h.rw_ gr (fun b hb e => kind_ne h.rc h.rw_ (by decide) e hb), h.ab, h.aw, h.bw, h.bel.trans hb, Nat.le_trans h.sz gr.size⟩⟩
end Go.Proofs.Ytjabdhmkibahlaa
