import Derived.Test.YtdhgmeklphcbhaaCVZr
import Derived.Test.YtdhgmeklphcbhaaCVNu
namespace Go.Proofs.Ytdhgmeklphcbhaa
open Go.RowKit
set_option linter.unusedVariables false
set_option linter.unusedSimpArgs false

theorem put_plain {zs : List Int} {n : Int} {i j : Nat} (hr : Ris zs) (hil : i ≤ zs.length) (hlt : ∀ k (h : k < zs.length), k < i → zs[k] < n) (hj : (∃ h : i < zs.length, zs[i] = n ∧ j = i + 1) ∨ (j = i ∧ ∀ h : i < zs.length, n < zs[i])) :
    Ris (zs.take i ++ [n] ++ zs.drop j) ∧ ∀ x, x ∈ zs.take i ++ [n] ++ zs.drop j ↔ x = n ∨ x ∈ zs := by
  rcases hj with ⟨h, e, rfl⟩ | ⟨rfl, h⟩
  · have hz : zs.take i ++ [n] ++ zs.drop (i + 1) = zs := by
      rw [← e, ← List.take_succ_eq_append_getElem h, List.take_append_drop]
    rw [hz]
    exact ⟨hr, fun x => ⟨fun h => .inr h, fun hx => by rcases hx with rfl | hx; · rw [← e]; exact List.getElem_mem h
                                                       · exact hx⟩⟩
  · have ha : ∀ x ∈ zs.take j, x < n := fun x hx => by
      obtain ⟨k, hk, rfl⟩ := List.getElem_of_mem hx
      simp at hk
      rw [List.getElem_take]
      exact hlt k (by omega) (by omega)
    have hd : ∀ x ∈ zs.drop j, n < x := fun x hx => by
      obtain ⟨k, hk, rfl⟩ := List.getElem_of_mem hx
      simp at hk
      rw [List.getElem_drop]
      have h1 := h (by omega)
      rcases Nat.eq_zero_or_pos k with h0 | h0
      · subst h0; simpa using h1
      · have := List.pairwise_iff_getElem.1 hr j (j + k) (by omega) (by omega) (by omega)
        omega
    have hp : Ris (zs.take j ++ zs.drop j) := by rw [List.take_append_drop]; exact hr
    obtain ⟨p1, p2, p3⟩ := List.pairwise_append.1 hp
    refine ⟨?_, fun x => ?_⟩
    · rw [List.append_assoc]
      refine List.pairwise_append.2 ⟨p1, List.pairwise_append.2 ⟨by simp, p2, fun a h1 b h2 => by simp at h1; subst h1; exact hd b h2⟩, fun a h1 b h2 => ?_⟩
      rcases List.mem_append.1 h2 with h2 | h2
      · simp at h2; subst h2; exact ha a h1
      · exact p3 a h1 b h2
    · have hm : x ∈ zs ↔ x ∈ zs.take j ∨ x ∈ zs.drop j := by rw [← List.mem_append, List.take_append_drop]
      rw [hm]
      simp only [List.mem_append, List.mem_singleton]
      constructor
      · rintro ((h | h) | h)
        · exact .inr (.inl h)
        · exact .inl h
        · exact .inr (.inr h)
      · rintro (h | h | h)
        · exact .inl (.inr h)
        · exact .inl (.inl h)
        · exact .inr h
theorem wpList_app {P : Program} {w w' : World} {ops : Array Oper} {rest : List Oper} {o : Oper} {a : Act} {Q : Exit → Act → World → Prop} (hgd : o.guard = none) (s x : Operand) (t : TypeId)
    (ho : o.op = .call { callee := .builtin .append, args := #[s, x], argTypes := #[t, t] }) {v u r : Value} (hs : a.eval s = v) (hx : a.eval x = u) (hr : ∀ ty, (Builtin.append_ #[t, t] ty #[v, u]).run P w = .ok r w')
    (h : wpList P ops Q rest (a.put o.dst r) w') : wpList P ops Q (o :: rest) a w := by
  refine wpList_plain hgd fun K hK => ?_
  unfold Oper.wp
  simp [execOp, ho, resolve, invoke, builtin, hs, hx, hr, Result.andThen]
  exact hK _ _ h
/-- numbers, may be none, behind a row of one's own -/
theorem app_nums (W : World) (base : Nat) (g cap n : Nat) (xs : List Value) (hown : W.ownsRow base 3 1 (.slice (some ⟨g, 0, none⟩) n cap) n xs) (hb : base ≤ W.heap.size) (b o m c : Nat) (ks : List Int) (hm : ks.length = m) (hc : ∀ j (h : j < ks.length), W.cell? ⟨b, o + j, none⟩ = some (.int .i64 ks[j])) (hl : n + m ≤ 1000000) :
    ∃ r W3, (∀ ty, (Builtin.append_ #[28, 28] ty #[.slice (some ⟨g, 0, none⟩) n cap, .slice (some ⟨b, o, none⟩) m c]).run Try.prog W = .ok r W3) ∧ W3.ownsRow base 3 1 r (n + m) (xs ++ ks.map (Value.int .i64)) ∧ W.grownBy W3 (some g) := by
  subst hm
  obtain ⟨i0, hi0, hz0, hz1, hz2⟩ := info_parts infoI
  by_cases h0 : 0 < ks.length
  · obtain ⟨g', c', W3, r1, r2, r3, r4, r5⟩ := run_append_lies (P := Try.prog) W 28 3 base 3 i0 (.int .i64 0) 1 8 Try.underlying28 hi0 hz0 hz1 hz2 rfl (by decide) _ _ _ hown ⟨b, o, none⟩ ks.length c (ks.map (Value.int .i64)) (by simp) (by
      intro j u hu
      have hj : j < ks.length := by
        rcases Nat.lt_or_ge j ks.length with e | e
        · exact e
        · rw [List.getElem?_eq_none (by simp; exact e)] at hu; cases hu
      have ha : (⟨b, o, none⟩ : Addr).add j = ⟨b, o + j, none⟩ := by unfold Addr.add; split <;> simp_all
      rw [ha, hc j hj]
      simpa [hj] using hu) (by
      intro u hu
      rw [List.mem_map] at hu
      obtain ⟨x, _, rfl⟩ := hu
      rfl) h0 (by unfold maxLen; omega) (by omega) hb W.heap.size rfl
    exact ⟨_, W3, fun ty => r1, r2, r3⟩
  · have hx : ks = [] := List.eq_nil_of_length_eq_zero (by omega)
    subst hx
    have hcp : n ≤ cap := by
      rcases hown.2 with ⟨h, _⟩ | ⟨g', cap', cur, e, _, _, h, _⟩
      · cases h
      · cases e; exact h
    refine ⟨.slice (some ⟨g, 0, none⟩) n cap, W, fun ty => ?_, by simpa using hown, ⟨rfl, rfl, rfl, Nat.le_refl _, fun _ _ _ => rfl⟩⟩
    have hu : (Try.prog.underlying 28) = some (.slice 3) := Try.underlying28
    simp [Builtin.append_, run_underlying hu, sizeOf, typeInfo, hi0, Builtin.lenOf, Builtin.firstCells, storeCells, loadCells, loadCellsFrom, hcp]

/-- what put answers -/
def PuPost (w : World) (zs : List Int) (n : Int) (e : Ending) (w' : World) : Prop := ∃ cs g c, e = .returned (.slice (some ⟨g, 0, none⟩) cs.length c) ∧ Ris cs ∧ (∀ x, x ∈ cs ↔ x = n ∨ x ∈ zs) ∧ cs.length ≤ zs.length + 1 ∧ w'.ownsRow w.heap.size 3 1 (.slice (some ⟨g, 0, none⟩) cs.length c) cs.length (cs.map (Value.int .i64)) ∧ Below w.heap.size w w'
/-- put in the midst -/
structure PuI (w wr : World) (zs : List Int) (u : Value) (i : Nat) : Prop where
  own : wr.ownsRow w.heap.size 3 1 u i ((zs.take i).map (Value.int .i64))
  bel : Below w.heap.size w wr
  sz : w.heap.size + 1 ≤ wr.heap.size

/-- the number is behind them -/
structure PuM (w w4 : World) (zs : List Int) (n : Int) (g c i : Nat) : Prop where
  own : w4.ownsRow w.heap.size 3 1 (.slice (some ⟨g, 0, none⟩) (i + 1) c) (i + 1) ((zs.take i ++ [n]).map (Value.int .i64))
  bel : Below w.heap.size w w4
theorem PuI.mid {w wr w4 : World} {zs : List Int} {u : Value} {i g c : Nat} {n : Int} {o : Obj} (h : PuI w wr zs u i) (hown : w4.ownsRow w.heap.size 3 1 (.slice (some ⟨g, 0, none⟩) (i + 1) c) (i + 1) ((zs.take i).map (Value.int .i64) ++ [.int .i64 n])) (hg : (wr.alloc o).grownBy w4 u.ownBlock) : PuM w w4 zs n g c i :=
  ⟨by rw [List.map_append]; exact hown, (h.bel.alloc h.bel.size _).grown hg (by have := h.sz; simp; omega) (fun k e => own_base h.own k e)⟩
theorem PuM.cell {w w4 : World} {zs : List Int} {n : Int} {g c i : Nat} (h : PuM w w4 zs n g c i) {B b d : Nat} (hp : Pth w B (some ⟨b, 0, none⟩) d zs) (hB : B ≤ w.heap.size) (k : Nat) (hk : k < zs.length) : w4.cell? ⟨b, k, none⟩ = some (.int .i64 zs[k]) := by
  obtain ⟨b', o', e', hb', d0, d64⟩ := (hp.lo (Lo.of (h.bel.mono hB))).at_ k hk
  cases e'
  rwa [Nat.zero_add] at d0
theorem PuM.cap {w w4 : World} {zs : List Int} {n : Int} {g c i : Nat} (h : PuM w w4 zs n g c i) : i + 1 ≤ c := by
  rcases h.own.2 with ⟨h, _⟩ | ⟨g', c', cur, e, _, _, h, _⟩
  · cases h
  · cases e; exact h
/-- there is no rest -/
theorem PuM.done {w w4 : World} {zs : List Int} {n : Int} {g c i : Nat} (h : PuM w w4 zs n g c i) (hil : i ≤ zs.length) (hr : Ris zs) (hlt : ∀ k (h : k < zs.length), k < i → zs[k] < n) (hj : (∃ h : i < zs.length, zs[i] = n ∧ zs.length = i + 1) ∨ (zs.length = i ∧ ∀ h : i < zs.length, n < zs[i])) : PuPost w zs n (.returned (.slice (some ⟨g, 0, none⟩) (i + 1) c)) w4 := by
  obtain ⟨q1, q2⟩ := put_plain hr hil hlt hj
  rw [List.drop_length, List.append_nil] at q1 q2
  have hlen : (zs.take i ++ [n]).length = i + 1 := by simp; omega
  refine ⟨zs.take i ++ [n], g, c, by rw [hlen], q1, q2, by omega, by rw [hlen]; exact h.own, h.bel⟩
/-- the rest is put behind -/
theorem PuM.rest {w w4 : World} {zs : List Int} {n : Int} {g c i : Nat} (h : PuM w w4 zs n g c i) {B b d : Nat} (hp : Pth w B (some ⟨b, 0, none⟩) d zs) (hB : B ≤ w.heap.size) (hl : zs.length ≤ 65536) (hil : i ≤ zs.length) (hr : Ris zs) (hlt : ∀ k (h : k < zs.length), k < i → zs[k] < n) (j o e : Nat) (ho : j < zs.length → o = j) (hj : (∃ h : i < zs.length, zs[i] = n ∧ j = i + 1) ∨ (j = i ∧ ∀ h : i < zs.length, n < zs[i])) :
    ∃ r W3, (∀ ty, (Builtin.append_ #[28, 28] ty #[.slice (some ⟨g, 0, none⟩) (i + 1) c, .slice (some ⟨b, o, none⟩) (zs.length - j) e]).run Try.prog w4 = .ok r W3) ∧ PuPost w zs n (.returned r) W3 := by
  have hjl : j ≤ zs.length := by rcases hj with ⟨h, _, e⟩ | ⟨e, _⟩ <;> omega
  obtain ⟨r, W3, h1, h2, h3⟩ := app_nums w4 w.heap.size g c (i + 1) _ h.own h.bel.size b o (zs.length - j) e (zs.drop j) (by simp) (fun k hk => by
    simp at hk
    rw [ho (by omega)]
    rw [List.getElem_drop]
    exact h.cell hp hB (j + k) (by omega)) (by omega)
  obtain ⟨q1, q2⟩ := put_plain hr hil hlt hj
  have hlen : (zs.take i ++ [n] ++ zs.drop j).length = i + 1 + (zs.length - j) := by simp; omega
  rw [← List.map_append, ← hlen] at h2
  have hg : w.heap.size ≤ g := own_base h.own g rfl
  have hb3 : Below w.heap.size w W3 := h.bel.grown h3 (h.bel.size) (fun k e => by cases e; exact hg)
  have hcl : (zs.take i ++ [n] ++ zs.drop j).length ≤ zs.length + 1 := by
    rw [hlen]; rcases hj with ⟨h, _, e⟩ | ⟨e, _⟩ <;> omega
  rcases h2.2 with ⟨_, h0⟩ | ⟨g', c', cur, rfl, _⟩
  · rw [hlen] at h0; omega
  · exact ⟨_, W3, h1, _, g', c', rfl, q1, q2, hcl, h2, hb3⟩

set_option maxRecDepth 100000 in
set_option maxHeartbeats 4000000 in
theorem put_any (w : World) (B b c : Nat) (zs : List Int) (n : Int) (hp : Pth w B (some ⟨b, 0, none⟩) c zs) (hB : B ≤ w.heap.size) (hr : Ris zs) (hl : zs.length ≤ 65536) :
    Calls Try.prog 37 #[.slice (some ⟨b, 0, none⟩) zs.length c, .int .i64 n] w (PuPost w zs n) := by
  obtain ⟨i0, hi, iz0, iz1, iz2⟩ := info_parts infoI
  have hlc := hp.len
  have hcm := hp.max
  unfold maxLen at hcm
  have HP : Bx _ := ⟨hp⟩
  have HR : Bx _ := ⟨hr⟩
  have HI0 : Bx (PuI w (w.alloc (.cells #[] 3)) zs (.slice (some ⟨w.heap.size, 0, none⟩) 0 0) 0) := ⟨⟨⟨rfl, .inr ⟨_, 0, #[], rfl, Nat.le_refl _, World.alloc_heap_new _ _, Nat.le_refl _, by simp [maxLen], rfl, rfl⟩⟩, below1 _ _, by simp⟩⟩
  clear hp hr
  go_enter Try.func37, Try.ntmps37
  go_wp2
  go_loopg [5, 6] zs.length (fun q u v wr => ∃ i : Nat, q = zs.length - i ∧ i ≤ zs.length ∧ v = .int .i64 i ∧ Bx (PuI w wr zs u i ∧ ∀ k (h : k < zs.length), k < i → zs[k] < n))
  case atStart => exact ⟨0, by simp, by omega, rfl, ⟨HI0.out, fun k h hk => by omega⟩⟩
  case round =>
    obtain ⟨i, hq, hil, rfl, HS⟩ := hrel
    clear HI0
    have hw := HS.out.1.sz
    by_cases hlt : i < zs.length
    · have hpt := (HP.out.lo (Lo.of (HS.out.1.bel.mono hB))).at_ i hlt
      obtain ⟨b', o', e', hb', d0, d64⟩ := hpt
      cases e'
      rw [Nat.zero_add] at d0
      by_cases hzn : zs[i] < n
      · have HO : Bx _ := ⟨HS.out.1.own⟩
        go_wp2_with (first | (at_builtin; refine wpList_append_lies _ rfl (.tmp 20) (.tmp 25) 28 rfl w.heap.size 3 i0 (.int .i64 0) 1 8 Try.underlying28 hi iz0 iz1 iz2 rfl (by decide) u5 i ((zs.take i).map (Value.int .i64)) rfl (own_new HO.out (below1 _ _)) ⟨wr.heap.size, 0, none⟩ 1 1 [.int .i64 zs[i]] rfl rfl (slice_one _ _ _ 3 (World.alloc_heap_new _ _)) (by simp [Value.oneCell']) (by decide) (by unfold maxLen; omega) (by omega) (by simp; omega) (wr.heap.size + 1) (by simp) ?_; intro gg gcap w4 hown' hgrow hgi hgl'))
        go_roundg (zs.length - (i + 1))
        case measure => omega
        case rel => exact ⟨i + 1, rfl, by omega, by simp, ⟨⟨by rw [List.take_succ_eq_append_getElem hlt, List.map_append]; exact hown', (HS.out.1.bel.alloc HS.out.1.bel.size _).grown hgrow (by simp; omega) (fun k e => own_base HO.out k e), by have := hgrow.size; simp at this; omega⟩, fun k h hk => by
          rcases Nat.lt_or_ge k i with h1 | h1
          · exact HS.out.2 k h h1
          · have : k = i := by omega
            subst this; exact hzn⟩⟩
      · have hge : n ≤ zs[i] := by omega
        by_cases hzq : zs[i] = n
        · have hb5 : (zs[i] == n) = true := by simpa using hzq
          clear hzn hge
          by_cases hcj : c = i + 1
          · subst hcj
            have hm0 : zs.length - (i + 1) = 0 := by omega
            go_wp2_with (first | (at_builtin; refine wpList_append_lies _ rfl (.tmp 29) (.tmp 31) 28 rfl w.heap.size 3 i0 (.int .i64 0) 1 8 Try.underlying28 hi iz0 iz1 iz2 rfl (by decide) u5 i ((zs.take i).map (Value.int .i64)) rfl (own_new HS.out.1.own (below1 _ _)) ⟨wr.heap.size, 0, none⟩ 1 1 [.int .i64 n] rfl rfl (slice_one _ _ _ 3 (World.alloc_heap_new _ _)) (by simp [Value.oneCell']) (by decide) (by unfold maxLen; omega) (by omega) (by simp; omega) (wr.heap.size + 1) (by simp) ?_; intro gg gcap w4 hown' hgrow hgi hgl'; have HM : Bx _ := ⟨HS.out.1.mid hown' hgrow⟩; clear hown' hgrow; have d1 := HM.out.cell HP.out hB i hlt; have hgc := HM.out.cap))
            go_ret
            exact HM.out.done hil HR.out HS.out.2 (.inl ⟨hlt, hzq, by omega⟩)
          · have hlc' : i + 1 < c := by omega
            go_wp2_with (first | (at_builtin; refine wpList_append_lies _ rfl (.tmp 29) (.tmp 31) 28 rfl w.heap.size 3 i0 (.int .i64 0) 1 8 Try.underlying28 hi iz0 iz1 iz2 rfl (by decide) u5 i ((zs.take i).map (Value.int .i64)) rfl (own_new HS.out.1.own (below1 _ _)) ⟨wr.heap.size, 0, none⟩ 1 1 [.int .i64 n] rfl rfl (slice_one _ _ _ 3 (World.alloc_heap_new _ _)) (by simp [Value.oneCell']) (by decide) (by unfold maxLen; omega) (by omega) (by simp; omega) (wr.heap.size + 1) (by simp) ?_; intro gg gcap w4 hown' hgrow hgi hgl'; have HM : Bx _ := ⟨HS.out.1.mid hown' hgrow⟩; clear hown' hgrow; have d1 := HM.out.cell HP.out hB i hlt; obtain ⟨r, W3, ha, hpost⟩ := HM.out.rest HP.out hB hl hil HR.out HS.out.2 (i + 1) (i + 1) (c - (i + 1)) (fun _ => rfl) (.inl ⟨hlt, hzq, rfl⟩); have HA : Bx _ := ⟨ha⟩; have HPo : Bx _ := ⟨hpost⟩; clear ha hpost) | (at_builtin; refine wpList_app rfl (.tmp 47) (.tmp 50) 28 rfl rfl rfl HA.out ?_))
            go_ret
            exact HPo.out
        · have hb5 : (zs[i] == n) = false := by simpa using hzq
          have hcj : ¬ c = i := by omega
          go_wp2_with (first | (at_builtin; refine wpList_append_lies _ rfl (.tmp 29) (.tmp 31) 28 rfl w.heap.size 3 i0 (.int .i64 0) 1 8 Try.underlying28 hi iz0 iz1 iz2 rfl (by decide) u5 i ((zs.take i).map (Value.int .i64)) rfl (own_new HS.out.1.own (below1 _ _)) ⟨wr.heap.size, 0, none⟩ 1 1 [.int .i64 n] rfl rfl (slice_one _ _ _ 3 (World.alloc_heap_new _ _)) (by simp [Value.oneCell']) (by decide) (by unfold maxLen; omega) (by omega) (by simp; omega) (wr.heap.size + 1) (by simp) ?_; intro gg gcap w4 hown' hgrow hgi hgl'; have HM : Bx _ := ⟨HS.out.1.mid hown' hgrow⟩; clear hown' hgrow; have d1 := HM.out.cell HP.out hB i hlt; obtain ⟨r, W3, ha, hpost⟩ := HM.out.rest HP.out hB hl hil HR.out HS.out.2 (i) (i) (c - i) (fun _ => rfl) (.inr ⟨rfl, fun _ => by omega⟩); have HA : Bx _ := ⟨ha⟩; have HPo : Bx _ := ⟨hpost⟩; clear ha hpost) | (at_builtin; refine wpList_app rfl (.tmp 47) (.tmp 50) 28 rfl rfl rfl HA.out ?_))
          go_ret
          exact HPo.out
    · have hie : i = zs.length := by omega
      subst hie
      by_cases hcj : c = zs.length
      · subst hcj
        go_wp2_with (first | (at_builtin; refine wpList_append_lies _ rfl (.tmp 29) (.tmp 31) 28 rfl w.heap.size 3 i0 (.int .i64 0) 1 8 Try.underlying28 hi iz0 iz1 iz2 rfl (by decide) u5 zs.length ((zs.take zs.length).map (Value.int .i64)) rfl (own_new HS.out.1.own (below1 _ _)) ⟨wr.heap.size, 0, none⟩ 1 1 [.int .i64 n] rfl rfl (slice_one _ _ _ 3 (World.alloc_heap_new _ _)) (by simp [Value.oneCell']) (by decide) (by unfold maxLen; omega) (by omega) (by simp; omega) (wr.heap.size + 1) (by simp) ?_; intro gg gcap w4 hown' hgrow hgi hgl'; have HM : Bx _ := ⟨HS.out.1.mid hown' hgrow⟩; clear hown' hgrow; have hgc := HM.out.cap))
        go_ret
        exact HM.out.done hil HR.out HS.out.2 (.inr ⟨rfl, fun h => by omega⟩)
      · have hlc' : zs.length < c := by omega
        go_wp2_with (first | (at_builtin; refine wpList_append_lies _ rfl (.tmp 29) (.tmp 31) 28 rfl w.heap.size 3 i0 (.int .i64 0) 1 8 Try.underlying28 hi iz0 iz1 iz2 rfl (by decide) u5 zs.length ((zs.take zs.length).map (Value.int .i64)) rfl (own_new HS.out.1.own (below1 _ _)) ⟨wr.heap.size, 0, none⟩ 1 1 [.int .i64 n] rfl rfl (slice_one _ _ _ 3 (World.alloc_heap_new _ _)) (by simp [Value.oneCell']) (by decide) (by unfold maxLen; omega) (by omega) (by simp; omega) (wr.heap.size + 1) (by simp) ?_; intro gg gcap w4 hown' hgrow hgi hgl'; have HM : Bx _ := ⟨HS.out.1.mid hown' hgrow⟩; clear hown' hgrow; have hgc := HM.out.cap))
        go_ret
        exact HM.out.done hil HR.out HS.out.2 (.inr ⟨rfl, fun h => by omega⟩)
end Go.Proofs.Ytdhgmeklphcbhaa
