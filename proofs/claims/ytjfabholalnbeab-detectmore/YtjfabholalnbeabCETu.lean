import Derived.Test.YtjfabholalnbeabCEZg
namespace Go.Proofs.Ytjfabholalnbeab
open Go.RowKit
set_option linter.unusedVariables false
set_option linter.unusedSimpArgs false

/-! ### turned -/
theorem hdsC_app (l m : List Hd) : hdsC (l ++ m) = hdsC l ++ hdsC m := by simp [hdsC]
theorem rev_take (l : List Hd) (i : Nat) (h : i < l.length) : l.reverse.take (i + 1) = l.reverse.take i ++ [l[l.length - 1 - i]] := by
  rw [List.take_succ_eq_append_getElem (by simpa using h), List.getElem_reverse]
set_option maxRecDepth 100000 in
set_option maxHeartbeats 1000000 in
theorem turned_any (w : World) (p : Option Addr) (c : Nat) (l : List Hd) (h : HdsR w p c l) (hl : l.length ≤ 2147483647) :
    Calls Try.prog 23 #[.slice p l.length c] w fun e w' => ∃ q d, e = .returned (.slice q l.length d) ∧ w'.ownsRow w.heap.size 53 2 (.slice q l.length d) l.length (hdsC l.reverse) ∧ Below w.heap.size w w' := by
  obtain ⟨i0, hi, iz0, iz1, iz2⟩ := info_parts infoH
  have hlc := h.len
  have hcm := h.max
  unfold maxLen at hcm
  have HS : Bx (HdsR w p c l) := ⟨h⟩
  clear h
  go_enter Try.func23, Try.ntmps23
  go_wp2
  go_loopg [3, 7] (l.length + 1) (fun k v3 v7 wr => ∃ i : Nat, k = l.length + 1 - i ∧ i ≤ l.length ∧ v7 = .int .i64 (i : Nat) ∧ Bx (wr.ownsRow w.heap.size 53 2 v3 i (hdsC (l.reverse.take i)) ∧ Below w.heap.size w wr))
  case atStart => exact ⟨0, by simp, by omega, rfl, ⟨⟨rfl, .inl ⟨rfl, rfl⟩⟩, Below.refl _ _⟩⟩
  case round =>
    obtain ⟨i, hk, hil, rfl, HR⟩ := hrel
    by_cases hlt : i < l.length
    · obtain ⟨j, hj⟩ : ∃ j, j = l.length - 1 - i := ⟨_, rfl⟩
      have hjl : j < l.length := by omega
      obtain ⟨b, o, rfl, h64, hcl⟩ := HS.out.at_ j hjl
      have hbr := HR.out.2
      obtain ⟨c0, c1⟩ := hcl wr hbr
      have HT : Bx (hdsC (l.reverse.take (i + 1)) = hdsC (l.reverse.take i) ++ [.int .i64 l[j].chan, .bool l[j].send]) := ⟨by
        rw [rev_take l i hlt, hdsC_app]; simp only [hj]; rfl⟩
      have g1 : ((l.length : Int) - 1 - (i : Int)) = (j : Int) := by omega
      have HO : Bx (wr.ownsRow w.heap.size 53 2 u3 i (hdsC (l.reverse.take i)) ∧ Below w.heap.size w wr) := HR
      have hsz : w.heap.size ≤ wr.heap.size := hbr.size
      clear hcl h64 hbr HR
      generalize l[j] = x at *
      clear hj
      obtain ⟨xc, xs⟩ := x
      simp only at c0 c1 HT
      generalize hdsC (l.reverse.take i) = pre at *
      go_wp2_with (first | (at_builtin; refine wpList_app _ rfl (.tmp 10) (.tmp 19) 30 rfl w.heap.size 53 i0 (.agg #[.int .i64 0, .bool false]) 2 16 Try.underlying30 hi iz0 iz1 iz2 rfl (by decide) u3 i pre rfl (own_new HO.out.1 (below1 _ _)) ⟨wr.heap.size, 0, none⟩ 1 1 [.int .i64 xc, .bool xs] rfl rfl (block_cells _ _ _ 53 (World.alloc_heap_new _ _)) (by simp [Value.oneCell']) (by decide) (by unfold maxLen; omega) (by omega) (by simp; omega) (wr.heap.size + 1) (by simp) ?_; intro gg gcap w9 hown9 hgrow9 hgi9 hgl9; have HN : Bx (w9.ownsRow w.heap.size 53 2 (.slice (some ⟨gg, 0, none⟩) (i + 1) gcap) (i + 1) (pre ++ [.int .i64 xc, .bool xs]) ∧ Below w.heap.size w w9) := ⟨hown9, ((HO.out.2.trans ((below1 wr _).mono HO.out.2.size)).grown hgrow9 (by simp; omega) (fun r e => own_base HO.out.1 r e))⟩; clear hown9 hgrow9 hgi9))
      go_roundg (l.length + 1 - (i + 1))
      case measure => omega
      case rel => exact ⟨i + 1, rfl, by omega, by simp, ⟨by rw [HT.out]; exact HN.out.1, HN.out.2⟩⟩
    · have hie : i = l.length := by omega
      subst hie
      rw [List.take_of_length_le (by simp)] at HR
      have HV : Bx (∃ q d, u3 = .slice q l.length d ∧ wr.ownsRow w.heap.size 53 2 (.slice q l.length d) l.length (hdsC l.reverse) ∧ Below w.heap.size w wr) := ⟨by
        rcases HR.out.1.2 with ⟨x1, x2⟩ | ⟨g, cap, cur, x1, _⟩
        · exact ⟨none, 0, by rw [x1, x2], by have := HR.out.1; rw [x1, x2] at this; rw [x2]; exact this, HR.out.2⟩
        · have := HR.out.1
          rw [x1] at this
          exact ⟨_, _, x1, this, HR.out.2⟩⟩
      obtain ⟨q, d, hu, hr⟩ := HV.out
      subst hu
      have HVR : Bx _ := ⟨hr⟩
      clear hr HV HR
      go_wp2
      go_ret
      exact ⟨q, d, rfl, HVR.out⟩
end Go.Proofs.Ytjfabholalnbeab
namespace Go.Proofs.Ytjfabholalnbeab
open Go.RowKit
set_option linter.unusedVariables false
set_option linter.unusedSimpArgs false

/-! ### put -/
theorem wpList_appz {P : Program} (w : World) {ops : Array Oper} {rest : List Oper} {o : Oper} {a : Act} {Q : Exit → Act → World → Prop}
    (hg : o.guard = none) (s x : Operand) (t : TypeId) (hop : o.op = Op.call { callee := Callee.builtin Builtin.append, args := #[s, x], argTypes := #[t, t] })
    (base : Nat) (e : TypeId) (i : TypeInfo) (size : Nat) (h1 : P.underlying t = some (.slice e)) (h2 : P.info? e = some i) (v : Value) (n : Nat) (xs : List Value) (hown : w.ownsRow base e size v n xs) (hs : a.eval s = v) (p : Option Addr) (c : Nat) (hx : a.eval x = .slice p 0 c)
    (hK : wpList P ops Q rest (a.put o.dst v) w) : wpList P ops Q (o :: rest) a w := by
  refine wpList_plain hg fun K hK' => ?_
  have hrun := run_append_zero (P := P) (w := w) base t o.type e i size h1 h2 v n xs hown p c
  unfold Oper.wp
  simp [execOp, hop, resolve, invoke, builtin, hs, hx, hrun, Result.andThen]
  exact hK' _ _ hK
theorem rowC_app (l m : List Int) : rowC (l ++ m) = rowC l ++ rowC m := by simp [rowC]
theorem rowC_len (l : List Int) : (rowC l).length = l.length := by simp [rowC]
theorem rowC_one (l : List Int) : ∀ u ∈ rowC l, u.oneCell' = true := fun u hu => by
  obtain ⟨x, _, rfl⟩ := List.mem_map.1 (show u ∈ l.map _ from hu)
  rfl
set_option maxRecDepth 100000 in
theorem put_has (w : World) (p : Option Addr) (c : Nat) (l : List Int) (n : Int) (h : IntsR w p c l) (hn : I64 n) (hh : hasL l n = true) :
    Calls Try.prog 22 #[.slice p l.length c, .int .i64 n] w fun e w' => e = .returned (.slice p l.length c) ∧ w' = w := by
  have HA : Bx (Calls Try.prog 13 #[.slice p l.length c, .int .i64 n] w fun e w' => e = .returned (.bool true) ∧ w' = w) := ⟨by
    have := has_any w p c l n h hn
    rw [hh] at this
    exact this⟩
  clear h hh
  go_enter Try.func22, Try.ntmps22
  go_wp2_with (first | (go_at_call 13; refine Calls.mono HA.out ?_; rintro e w1 ⟨rfl, rfl⟩))
  go_ret
  exact ⟨rfl, rfl⟩
def PutP (w : World) (l : List Int) (n : Int) (e : Ending) (w' : World) : Prop := ∃ k q d, k ≤ l.length ∧ (∀ x ∈ l.take k, x < n) ∧ (∀ h : k < l.length, n ≤ l[k]) ∧ e = .returned (.slice q (l.length + 1) d) ∧ w'.ownsRow w.heap.size 3 1 (.slice q (l.length + 1) d) (l.length + 1) (rowC (l.take k ++ n :: l.drop k)) ∧ Below w.heap.size w w'
theorem ints_part {w : World} {b o c : Nat} {l : List Int} (h : IntsR w (some ⟨b, o, none⟩) c l) (k m : Nat) {X : World} (hX : Below w.heap.size w X) : ∀ j u, (rowC ((l.drop k).take m))[j]? = some u → X.cell? ((⟨b, o + k, none⟩ : Addr).add j) = some u := fun j u hj => by
  have hjl : j < ((l.drop k).take m).length := by have := (List.getElem?_eq_some_iff.1 hj).1; simpa [rowC] using this
  rw [List.length_take, List.length_drop] at hjl
  obtain ⟨b', o', e, _, h1⟩ := h.at_ (k + j) (by omega)
  cases e
  rw [add_off, show o + k + j = o + (k + j) by omega, h1 X hX]
  have e2 : ((l.drop k).take m)[j]? = some l[k + j] := by
    rw [List.getElem?_take_of_lt (by omega), List.getElem?_drop, List.getElem?_eq_getElem (by omega)]
  have e3 : (rowC ((l.drop k).take m))[j]? = some (.int .i64 l[k + j]) := by
    show (((l.drop k).take m).map _)[j]? = _
    rw [List.getElem?_map, e2]
    rfl
  rw [e3] at hj
  exact hj
set_option maxRecDepth 100000 in
set_option maxHeartbeats 1500000 in
/-- a list of some -/
theorem put_some (w : World) (b o : Nat) (c : Nat) (l : List Int) (n : Int) (h : IntsR w (some ⟨b, o, none⟩) c l) (hl : l.length ≤ 2147483647) (hn : I64 n) (hh : hasL l n = false) :
    Calls Try.prog 22 #[.slice (some ⟨b, o, none⟩) l.length c, .int .i64 n] w (PutP w l n) := by
  obtain ⟨i0, hi, iz0, iz1, iz2⟩ := info_parts infoI
  have hlc := h.len
  have hcm := h.max
  unfold maxLen at hcm
  have HA : Bx (Calls Try.prog 13 #[.slice (some ⟨b, o, none⟩) l.length c, .int .i64 n] w fun e w' => e = .returned (.bool false) ∧ w' = w) := ⟨by
    have := has_any w _ c l n h hn
    rw [hh] at this
    exact this⟩
  have HS : Bx _ := ⟨h⟩
  clear h hh
  go_enter Try.func22, Try.ntmps22
  go_wp2_with (first | (go_at_call 13; refine Calls.mono HA.out ?_; rintro e w1 ⟨rfl, rfl⟩))
  go_loopg [6] (l.length + 1) (fun g v6 wr => ∃ k : Nat, g = l.length + 1 - k ∧ k ≤ l.length ∧ v6 = .int .i64 (k : Nat) ∧ Bx ((∀ x ∈ l.take k, x < n) ∧ wr = w1))
  case atStart => exact ⟨0, by simp, by omega, rfl, ⟨(fun x hx => by simp at hx), rfl⟩⟩
  case round =>
    obtain ⟨k, hg, hkl, rfl, HR⟩ := hrel
    obtain ⟨hlo, rfl⟩ := HR.out
    have HLO : Bx (∀ x ∈ l.take k, x < n) := ⟨hlo⟩
    clear hlo HR
    by_cases hlt : k < l.length
    · obtain ⟨b', o', e, _, hc⟩ := HS.out.at_ k hlt
      cases e
      have c0 := hc wr (Below.refl _ _)
      clear hc
      by_cases hx : l[k] < n
      · have HL2 : Bx (∀ x ∈ l.take (k + 1), x < n) := ⟨fun x hx' => by
          rw [List.take_succ_eq_append_getElem hlt, List.mem_append, List.mem_singleton] at hx'
          rcases hx' with g | g
          · exact HLO.out x g
          · rw [g]; exact hx⟩
        generalize l[k] = z at *
        go_wp2
        go_roundg (l.length + 1 - (k + 1))
        case measure => omega
        case rel => exact ⟨k + 1, rfl, by omega, by simp, ⟨HL2.out, rfl⟩⟩
      · have HGE : Bx (∀ h : k < l.length, n ≤ l[k]) := ⟨fun h => by omega⟩
        have hz : ¬ l[k] < n := hx
        by_cases h0 : 0 < k
        · have HP1 : Bx (∀ j u, (rowC (l.take k))[j]? = some u → wr.cell? ((⟨b, o, none⟩ : Addr).add j) = some u) := ⟨by have := ints_part HS.out 0 k (Below.refl wr.heap.size wr); simpa using this⟩
          have HP2 : Bx (∀ X, Below wr.heap.size wr X → ∀ j u, (rowC (l.drop k))[j]? = some u → X.cell? ((⟨b, o + k, none⟩ : Addr).add j) = some u) := ⟨fun X hX => by
            have := ints_part HS.out k (l.length - k) hX
            rw [List.take_of_length_le (by rw [List.length_drop]; omega)] at this
            exact this⟩
          generalize l[k] = z at *
          go_wp2_with (first
            | (at_builtin; refine wpList_app _ rfl (.tmp 25) (.tmp 28) 25 rfl wr.heap.size 3 i0 (.int .i64 0) 1 8 Try.underlying25 hi iz0 iz1 iz2 rfl (by decide) (.slice none 0 0) 0 [] rfl ⟨rfl, .inl ⟨rfl, rfl⟩⟩ ⟨b, o, none⟩ k c (rowC (l.take k)) rfl (by rw [rowC_len, List.length_take]; omega) HP1.out (rowC_one _) (by omega) (by unfold maxLen; omega) (by omega) (Nat.le_refl _) wr.heap.size rfl ?_; intro g1 cap1 w4 hown4 hgrow4 hgi4 hgl4; have I1 : Bx (w4.ownsRow wr.heap.size 3 1 (.slice (some ⟨g1, 0, none⟩) k cap1) k (rowC (l.take k)) ∧ Below wr.heap.size wr w4) := ⟨(by simpa using hown4), (Below.refl _ _).grown hgrow4 (Nat.le_refl _) (fun r e => by cases e)⟩; have hz4 := I1.out.2.size; clear hown4 hgrow4 hgi4)
            | (at_builtin; refine wpList_app _ rfl (.tmp 30) (.tmp 32) 25 rfl wr.heap.size 3 i0 (.int .i64 0) 1 8 Try.underlying25 hi iz0 iz1 iz2 rfl (by decide) (.slice (some ⟨g1, 0, none⟩) k cap1) k (rowC (l.take k)) rfl (own_new I1.out.1 (below1 _ _)) ⟨w4.heap.size, 0, none⟩ 1 1 [.int .i64 n] rfl rfl (block_cells _ _ _ 3 (World.alloc_heap_new _ _)) (by simp [Value.oneCell']) (by decide) (by unfold maxLen; omega) (by omega) (by simp <;> omega) (w4.heap.size + 1) (by simp) ?_; intro g2 cap2 w5 hown5 hgrow5 hgi5 hgl5; have I2 : Bx (w5.ownsRow wr.heap.size 3 1 (.slice (some ⟨g2, 0, none⟩) (k + 1) cap2) (k + 1) (rowC (l.take k ++ [n])) ∧ Below wr.heap.size wr w5) := ⟨(by rw [rowC_snoc]; simpa using hown5), (Below.trans I1.out.2 ((below1 w4 _).mono I1.out.2.size)).grown hgrow5 (by simp; try omega) (fun r e => own_base I1.out.1 r e)⟩; have hz5 := I2.out.2.size; clear hown5 hgrow5 hgi5)
            | (at_builtin; refine wpList_app _ rfl (.tmp 34) (.tmp 37) 25 rfl wr.heap.size 3 i0 (.int .i64 0) 1 8 Try.underlying25 hi iz0 iz1 iz2 rfl (by decide) (.slice (some ⟨g2, 0, none⟩) (k + 1) cap2) (k + 1) (rowC (l.take k ++ [n])) rfl I2.out.1 ⟨b, o + k, none⟩ (l.length - k) (c - k) (rowC (l.drop k)) rfl (by rw [rowC_len, List.length_drop]; omega) (HP2.out w5 I2.out.2) (rowC_one _) (by omega) (by unfold maxLen; omega) (by omega) hz5 w5.heap.size rfl ?_; intro g3 cap3 w6 hown6 hgrow6 hgi6 hgl6; have I3 : Bx (w6.ownsRow wr.heap.size 3 1 (.slice (some ⟨g3, 0, none⟩) (l.length + 1) cap3) (l.length + 1) (rowC (l.take k ++ n :: l.drop k)) ∧ Below wr.heap.size wr w6) := ⟨(by have e : k + 1 + (l.length - k) = l.length + 1 := (by omega); rw [e, ← rowC_app, List.append_assoc] at hown6; exact hown6), I2.out.2.grown hgrow6 hz5 (fun r e => own_base I2.out.1 r e)⟩; clear hown6 hgrow6 hgi6))
          have e9 : k + 1 + (l.length - k) = l.length + 1 := by omega
          go_ret
          exact ⟨k, some ⟨g3, 0, none⟩, cap3, by omega, HLO.out, HGE.out, by simp; omega, I3.out.1, I3.out.2⟩
        · obtain rfl : k = 0 := by omega
          have HP2 : Bx (∀ X, Below wr.heap.size wr X → ∀ j u, (rowC (l.drop 0))[j]? = some u → X.cell? ((⟨b, o + 0, none⟩ : Addr).add j) = some u) := ⟨fun X hX => by
            have := ints_part HS.out 0 (l.length - 0) hX
            rw [List.take_of_length_le (by rw [List.length_drop]; omega)] at this
            exact this⟩
          rw [Nat.add_zero] at c0
          generalize l[0] = z at *
          go_wp2_with (first
            | (at_builtin; refine wpList_app0 _ rfl (.tmp 25) (.tmp 28) 25 rfl 3 i0 1 Try.underlying25 hi rfl (some ⟨b, o, none⟩) c rfl ?_)
            | (at_builtin; refine wpList_app _ rfl (.tmp 30) (.tmp 32) 25 rfl wr.heap.size 3 i0 (.int .i64 0) 1 8 Try.underlying25 hi iz0 iz1 iz2 rfl (by decide) (.slice none 0 0) 0 (rowC ([])) rfl ⟨rfl, .inl ⟨rfl, rfl⟩⟩ ⟨wr.heap.size, 0, none⟩ 1 1 [.int .i64 n] rfl rfl (block_cells _ _ _ 3 (World.alloc_heap_new _ _)) (by simp [Value.oneCell']) (by decide) (by unfold maxLen; omega) (by omega) (by simp <;> omega) (wr.heap.size + 1) (by simp) ?_; intro g2 cap2 w5 hown5 hgrow5 hgi5 hgl5; have I2 : Bx (w5.ownsRow wr.heap.size 3 1 (.slice (some ⟨g2, 0, none⟩) (0 + 1) cap2) (0 + 1) (rowC ([] ++ [n])) ∧ Below wr.heap.size wr w5) := ⟨(by rw [rowC_snoc]; simpa using hown5), (Below.trans (Below.refl wr.heap.size wr) ((below1 wr _).mono (Below.refl wr.heap.size wr).size)).grown hgrow5 (by simp; try omega) (fun r e => by cases e)⟩; have hz5 := I2.out.2.size; clear hown5 hgrow5 hgi5)
            | (at_builtin; refine wpList_app _ rfl (.tmp 34) (.tmp 37) 25 rfl wr.heap.size 3 i0 (.int .i64 0) 1 8 Try.underlying25 hi iz0 iz1 iz2 rfl (by decide) (.slice (some ⟨g2, 0, none⟩) (0 + 1) cap2) (0 + 1) (rowC ([] ++ [n])) rfl I2.out.1 ⟨b, o + 0, none⟩ (l.length - 0) (c - 0) (rowC (l.drop 0)) rfl (by rw [rowC_len, List.length_drop]; omega) (HP2.out w5 I2.out.2) (rowC_one _) (by omega) (by unfold maxLen; omega) (by omega) hz5 w5.heap.size rfl ?_; intro g3 cap3 w6 hown6 hgrow6 hgi6 hgl6; have I3 : Bx (w6.ownsRow wr.heap.size 3 1 (.slice (some ⟨g3, 0, none⟩) (l.length + 1) cap3) (l.length + 1) (rowC ([] ++ n :: l.drop 0)) ∧ Below wr.heap.size wr w6) := ⟨(by have e : 0 + 1 + (l.length - 0) = l.length + 1 := (by omega); rw [e, ← rowC_app, List.append_assoc] at hown6; exact hown6), I2.out.2.grown hgrow6 hz5 (fun r e => own_base I2.out.1 r e)⟩; clear hown6 hgrow6 hgi6))
          have e9 : 0 + 1 + (l.length - 0) = l.length + 1 := by omega
          go_ret
          exact ⟨0, some ⟨g3, 0, none⟩, cap3, by omega, HLO.out, HGE.out, by simp; omega, I3.out.1, I3.out.2⟩
    · have hke : k = l.length := by omega
      subst hke
      by_cases h0 : 0 < l.length
      · have HP1 : Bx (∀ j u, (rowC (l.take l.length))[j]? = some u → wr.cell? ((⟨b, o, none⟩ : Addr).add j) = some u) := ⟨by have := ints_part HS.out 0 l.length (Below.refl wr.heap.size wr); simpa using this⟩
        go_wp2_with (first
          | (at_builtin; refine wpList_app _ rfl (.tmp 25) (.tmp 28) 25 rfl wr.heap.size 3 i0 (.int .i64 0) 1 8 Try.underlying25 hi iz0 iz1 iz2 rfl (by decide) (.slice none 0 0) 0 [] rfl ⟨rfl, .inl ⟨rfl, rfl⟩⟩ ⟨b, o, none⟩ l.length c (rowC (l.take l.length)) rfl (by rw [rowC_len, List.length_take]; omega) HP1.out (rowC_one _) (by omega) (by unfold maxLen; omega) (by omega) (Nat.le_refl _) wr.heap.size rfl ?_; intro g1 cap1 w4 hown4 hgrow4 hgi4 hgl4; have I1 : Bx (w4.ownsRow wr.heap.size 3 1 (.slice (some ⟨g1, 0, none⟩) l.length cap1) l.length (rowC (l.take l.length)) ∧ Below wr.heap.size wr w4) := ⟨(by simpa using hown4), (Below.refl _ _).grown hgrow4 (Nat.le_refl _) (fun r e => by cases e)⟩; have hz4 := I1.out.2.size; clear hown4 hgrow4 hgi4)
          | (at_builtin; refine wpList_app _ rfl (.tmp 30) (.tmp 32) 25 rfl wr.heap.size 3 i0 (.int .i64 0) 1 8 Try.underlying25 hi iz0 iz1 iz2 rfl (by decide) (.slice (some ⟨g1, 0, none⟩) l.length cap1) l.length (rowC (l.take l.length)) rfl (own_new I1.out.1 (below1 _ _)) ⟨w4.heap.size, 0, none⟩ 1 1 [.int .i64 n] rfl rfl (block_cells _ _ _ 3 (World.alloc_heap_new _ _)) (by simp [Value.oneCell']) (by decide) (by unfold maxLen; omega) (by omega) (by simp <;> omega) (w4.heap.size + 1) (by simp) ?_; intro g2 cap2 w5 hown5 hgrow5 hgi5 hgl5; have I2 : Bx (w5.ownsRow wr.heap.size 3 1 (.slice (some ⟨g2, 0, none⟩) (l.length + 1) cap2) (l.length + 1) (rowC (l.take l.length ++ [n])) ∧ Below wr.heap.size wr w5) := ⟨(by rw [rowC_snoc]; simpa using hown5), (Below.trans I1.out.2 ((below1 w4 _).mono I1.out.2.size)).grown hgrow5 (by simp; try omega) (fun r e => own_base I1.out.1 r e)⟩; have hz5 := I2.out.2.size; clear hown5 hgrow5 hgi5)
          | (at_builtin; refine wpList_appz _ rfl (.tmp 34) (.tmp 37) 25 rfl wr.heap.size 3 i0 1 Try.underlying25 hi (.slice (some ⟨g2, 0, none⟩) (l.length + 1) cap2) (l.length + 1) (rowC (l.take l.length ++ [n])) I2.out.1 rfl _ _ rfl ?_))
        all_goals (
          go_ret
          exact ⟨l.length, some ⟨g2, 0, none⟩, cap2, by omega, HLO.out, (fun h => by omega), by simp, (by have h := I2.out.1; rw [show l.drop l.length = [] from List.drop_of_length_le (by omega)]; exact h), I2.out.2⟩)
      · obtain rfl : l = [] := List.eq_nil_of_length_eq_zero (by omega)
        go_wp2_with (first
          | (at_builtin; refine wpList_app0 _ rfl (.tmp 25) (.tmp 28) 25 rfl 3 i0 1 Try.underlying25 hi rfl (some ⟨b, o, none⟩) c rfl ?_)
          | (at_builtin; refine wpList_app _ rfl (.tmp 30) (.tmp 32) 25 rfl wr.heap.size 3 i0 (.int .i64 0) 1 8 Try.underlying25 hi iz0 iz1 iz2 rfl (by decide) (.slice none 0 0) 0 (rowC ([])) rfl ⟨rfl, .inl ⟨rfl, rfl⟩⟩ ⟨wr.heap.size, 0, none⟩ 1 1 [.int .i64 n] rfl rfl (block_cells _ _ _ 3 (World.alloc_heap_new _ _)) (by simp [Value.oneCell']) (by decide) (by unfold maxLen; omega) (by omega) (by simp <;> omega) (wr.heap.size + 1) (by simp) ?_; intro g2 cap2 w5 hown5 hgrow5 hgi5 hgl5; have I2 : Bx (w5.ownsRow wr.heap.size 3 1 (.slice (some ⟨g2, 0, none⟩) (0 + 1) cap2) (0 + 1) (rowC ([] ++ [n])) ∧ Below wr.heap.size wr w5) := ⟨(by rw [rowC_snoc]; simpa using hown5), (Below.trans (Below.refl wr.heap.size wr) ((below1 wr _).mono (Below.refl wr.heap.size wr).size)).grown hgrow5 (by simp; try omega) (fun r e => by cases e)⟩; have hz5 := I2.out.2.size; clear hown5 hgrow5 hgi5)
          | (at_builtin; refine wpList_appz _ rfl (.tmp 34) (.tmp 37) 25 rfl wr.heap.size 3 i0 1 Try.underlying25 hi (.slice (some ⟨g2, 0, none⟩) (0 + 1) cap2) (0 + 1) (rowC ([] ++ [n])) I2.out.1 rfl _ _ rfl ?_))
        all_goals (
          go_ret
          exact ⟨0, some ⟨g2, 0, none⟩, cap2, by omega, HLO.out, (fun h => by omega), by simp, I2.out.1, I2.out.2⟩)
set_option maxRecDepth 100000 in
set_option maxHeartbeats 1500000 in
theorem put_nil (w : World) (p : Option Addr) (c : Nat) (n : Int) (h : IntsR w p c []) (hn : I64 n) :
    Calls Try.prog 22 #[.slice p 0 c, .int .i64 n] w (PutP w [] n) := by
  obtain ⟨i0, hi, iz0, iz1, iz2⟩ := info_parts infoI
  have hcm := h.max
  unfold maxLen at hcm
  have HA : Bx (Calls Try.prog 13 #[.slice p 0 c, .int .i64 n] w fun e w' => e = .returned (.bool false) ∧ w' = w) := ⟨has_any w _ c [] n h hn⟩
  clear h
  go_enter Try.func22, Try.ntmps22
  go_wp2_with (first | (go_at_call 13; refine Calls.mono HA.out ?_; rintro e w1 ⟨rfl, rfl⟩))
  go_loopg [6] 1 (fun g v6 wr => g = 1 ∧ v6 = .int .i64 0 ∧ wr = w1)
  case atStart => exact ⟨rfl, rfl, rfl⟩
  case round =>
      obtain ⟨rfl, rfl, rfl⟩ := hrel
      have HLO : Bx (∀ x ∈ ([] : List Int).take 0, x < n) := ⟨fun x hx => by cases hx⟩
      go_wp2_with (first
        | (at_builtin; refine wpList_app0 _ rfl (.tmp 25) (.tmp 28) 25 rfl 3 i0 1 Try.underlying25 hi rfl _ _ rfl ?_)
        | (at_builtin; refine wpList_app _ rfl (.tmp 30) (.tmp 32) 25 rfl wr.heap.size 3 i0 (.int .i64 0) 1 8 Try.underlying25 hi iz0 iz1 iz2 rfl (by decide) (.slice none 0 0) 0 (rowC ([])) rfl ⟨rfl, .inl ⟨rfl, rfl⟩⟩ ⟨wr.heap.size, 0, none⟩ 1 1 [.int .i64 n] rfl rfl (block_cells _ _ _ 3 (World.alloc_heap_new _ _)) (by simp [Value.oneCell']) (by decide) (by unfold maxLen; omega) (by omega) (by simp <;> omega) (wr.heap.size + 1) (by simp) ?_; intro g2 cap2 w5 hown5 hgrow5 hgi5 hgl5; have I2 : Bx (w5.ownsRow wr.heap.size 3 1 (.slice (some ⟨g2, 0, none⟩) (0 + 1) cap2) (0 + 1) (rowC ([] ++ [n])) ∧ Below wr.heap.size wr w5) := ⟨(by rw [rowC_snoc]; simpa using hown5), (Below.trans (Below.refl wr.heap.size wr) ((below1 wr _).mono (Below.refl wr.heap.size wr).size)).grown hgrow5 (by simp; try omega) (fun r e => by cases e)⟩; have hz5 := I2.out.2.size; clear hown5 hgrow5 hgi5)
        | (at_builtin; refine wpList_appz _ rfl (.tmp 34) (.tmp 37) 25 rfl wr.heap.size 3 i0 1 Try.underlying25 hi (.slice (some ⟨g2, 0, none⟩) (0 + 1) cap2) (0 + 1) (rowC ([] ++ [n])) I2.out.1 rfl _ _ rfl ?_))
      all_goals (
        go_ret
        exact ⟨0, some ⟨g2, 0, none⟩, cap2, by omega, HLO.out, (fun h => absurd h (by simp)), by simp, I2.out.1, I2.out.2⟩)
theorem put_any (w : World) (p : Option Addr) (c : Nat) (l : List Int) (n : Int) (h : IntsR w p c l) (hl : l.length ≤ 2147483647) (hn : I64 n) (hh : hasL l n = false) :
    Calls Try.prog 22 #[.slice p l.length c, .int .i64 n] w (PutP w l n) := by
  by_cases h0 : l.length = 0
  · obtain rfl : l = [] := List.eq_nil_of_length_eq_zero h0
    exact put_nil w p c n h hn
  · obtain ⟨b, o, rfl, _, _⟩ := h.at_ 0 (by omega)
    exact put_some w b o c l n h hl hn hh
end Go.Proofs.Ytjfabholalnbeab
namespace Go.Proofs.Ytjfabholalnbeab
open Go.RowKit
set_option linter.unusedVariables false
set_option linter.unusedSimpArgs false

/-! ### Dead, of whatever agents -/
def DeadIs (s : List Ag) (D : List Int) : Prop := (stOk s = true ∧ ∃ Y, Full s Y ∧ D = ddL Y s) ∨ (stOk s = false ∧ D = [])
theorem Dead_gen (w : World) (p : Option Addr) (c : Nat) (s : List Ag) (h : AgsR w p c s) (ht : totA s ≤ 2147483647) : Calls Try.prog 10 #[.slice p s.length c] w fun e w' => ∃ D q d, DeadIs s D ∧ e = .returned (.tuple #[.slice q D.length d, .int .i64 (chkI s)]) ∧ IntsR w' q d D ∧ Below w.heap.size w w' := by
  cases hok : stOk s with
  | true =>
    refine (Dead_yes w p c s h ht hok).mono ?_
    rintro e w' ⟨Y, q, d, hY, rfl, hI, hb⟩
    exact ⟨ddL Y s, q, d, .inl ⟨hok, Y, hY, rfl⟩, by rw [show chkI s = 0 by simp [chkI, hok]], hI, hb⟩
  | false =>
    refine (Dead_no w p c s h ht hok).mono ?_
    rintro e w' ⟨rfl, hb⟩
    exact ⟨[], none, 0, .inr ⟨hok, rfl⟩, by rw [show chkI s = 140 by simp [chkI, hok]]; rfl, ⟨by simp, by simp [maxLen], fun i hi => by cases hi⟩, hb⟩
theorem turn_chk (s : List Ag) : chkI (s.map turnA) = chkI s := by unfold chkI; rw [turn_ok]
theorem turn_tot (s : List Ag) : totA (s.map turnA) = totA s := by
  induction s with
  | nil => rfl
  | cons a r ih =>
    rw [List.map_cons, totA, totA, ih]
    show a.arms.reverse.length + a.held.length + 1 + totA r = _
    rw [List.length_reverse]
theorem dead_is_turn {s : List Ag} {D D' : List Int} (h : DeadIs s D) (h' : DeadIs (s.map turnA) D') : D' = D := by
  rcases h with ⟨h1, Y, hY, rfl⟩ | ⟨h1, rfl⟩
  · rcases h' with ⟨_, Z, hZ, rfl⟩ | ⟨h2, _⟩
    · exact dead_turn h1 hY hZ
    · rw [turn_ok, h1] at h2; cases h2
  · rcases h' with ⟨h2, _⟩ | ⟨_, rfl⟩
    · rw [turn_ok, h1] at h2; cases h2
    · rfl
theorem len_tot : ∀ l : List Ag, l.length ≤ totA l
  | [] => by simp
  | a :: r => by have := len_tot r; simp only [totA, List.length_cons]; omega
theorem arm_tot : ∀ (l : List Ag) (i : Nat) (h : i < l.length), l[i].arms.length ≤ totA l ∧ l[i].held.length ≤ totA l
  | a :: r, 0, h => by simp only [List.getElem_cons_zero, totA]; omega
  | a :: r, i + 1, h => by
    have := arm_tot r i (by simpa using h)
    simp only [List.getElem_cons_succ, totA]; omega
/-! ### a row of agents, an entry turned -/
theorem AgX.arms {w W X : World} {B : Nat} {gs : List Ag} {cs : List Value} (h : AgX w W B gs cs) (k : KA W X) {i : Nat} (hi : i < gs.length) {q : Option Addr} {d : Nat} {l : List Hd} (hl : HdsM w X B q d l) : AgX w X B (gs.set i ⟨gs[i].id, gs[i].awake, l, gs[i].held⟩) (cs.set (i * 4 + 2) (.slice q l.length d)) := by
  refine ⟨by rw [List.length_set, List.length_set]; exact h.1, fun j hj => ?_⟩
  rw [List.length_set] at hj
  obtain ⟨ap, ac, hp, hc, q1, q2, q3, q4, q5, q6, q7⟩ := h.2 j hj
  have hlen := h.1
  by_cases e : i = j
  · subst e
    rw [List.getElem_set_self]
    refine ⟨q, d, hp, hc, q1, hl, q3.keep k, ?_, ?_, ?_, ?_⟩
    · rw [List.getElem?_set_ne (by omega)]; exact q4
    · rw [List.getElem?_set_ne (by omega)]; exact q5
    · rw [List.getElem?_set_self (by omega)]
    · rw [List.getElem?_set_ne (by omega)]; exact q7
  · rw [List.getElem_set_ne e]
    refine ⟨ap, ac, hp, hc, q1, q2.keep k, q3.keep k, ?_, ?_, ?_, ?_⟩ <;> rw [List.getElem?_set_ne (by omega)] <;> assumption
theorem AgX.held {w W X : World} {B : Nat} {gs : List Ag} {cs : List Value} (h : AgX w W B gs cs) (k : KA W X) {i : Nat} (hi : i < gs.length) {q : Option Addr} {d : Nat} {l : List Int} (hl : IntsM w X B q d l) : AgX w X B (gs.set i ⟨gs[i].id, gs[i].awake, gs[i].arms, l⟩) (cs.set (i * 4 + 3) (.slice q l.length d)) := by
  refine ⟨by rw [List.length_set, List.length_set]; exact h.1, fun j hj => ?_⟩
  rw [List.length_set] at hj
  obtain ⟨ap, ac, hp, hc, q1, q2, q3, q4, q5, q6, q7⟩ := h.2 j hj
  have hlen := h.1
  by_cases e : i = j
  · subst e
    rw [List.getElem_set_self]
    refine ⟨ap, ac, q, d, q1, q2.keep k, hl, ?_, ?_, ?_, ?_⟩
    · rw [List.getElem?_set_ne (by omega)]; exact q4
    · rw [List.getElem?_set_ne (by omega)]; exact q5
    · rw [List.getElem?_set_ne (by omega)]; exact q6
    · rw [List.getElem?_set_self (by omega)]
  · rw [List.getElem_set_ne e]
    refine ⟨ap, ac, hp, hc, q1, q2.keep k, q3.keep k, ?_, ?_, ?_, ?_⟩ <;> rw [List.getElem?_set_ne (by omega)] <;> assumption
theorem AgX.awk {w W X : World} {B : Nat} {gs : List Ag} {cs : List Value} (h : AgX w W B gs cs) (k : KA W X) {i : Nat} (hi : i < gs.length) (b : Bool) : AgX w X B (gs.set i ⟨gs[i].id, b, gs[i].arms, gs[i].held⟩) (cs.set (i * 4 + 1) (.bool b)) := by
  refine ⟨by rw [List.length_set, List.length_set]; exact h.1, fun j hj => ?_⟩
  rw [List.length_set] at hj
  obtain ⟨ap, ac, hp, hc, q1, q2, q3, q4, q5, q6, q7⟩ := h.2 j hj
  have hlen := h.1
  by_cases e : i = j
  · subst e
    rw [List.getElem_set_self]
    refine ⟨ap, ac, hp, hc, q1, q2.keep k, q3.keep k, ?_, ?_, ?_, ?_⟩
    · rw [List.getElem?_set_ne (by omega)]; exact q4
    · rw [List.getElem?_set_self (by omega)]
    · rw [List.getElem?_set_ne (by omega)]; exact q6
    · rw [List.getElem?_set_ne (by omega)]; exact q7
  · rw [List.getElem_set_ne e]
    refine ⟨ap, ac, hp, hc, q1, q2.keep k, q3.keep k, ?_, ?_, ?_, ?_⟩ <;> rw [List.getElem?_set_ne (by omega)] <;> assumption
/-- a row of agents of one's own in the midst of being turned -/
def TuI (w wr : World) (p : Option Addr) (cap : Nat) (gs : List Ag) : Prop := ∃ cs, wr.ownsRow w.heap.size 32 4 (.slice p gs.length cap) gs.length cs ∧ AgX w wr w.heap.size gs cs ∧ Below w.heap.size w wr
theorem TuI.later {w wr X : World} {p : Option Addr} {cap : Nat} {gs : List Ag} (h : TuI w wr p cap gs) (hb : Below wr.heap.size wr X) : TuI w X p cap gs := by
  obtain ⟨cs, h1, h2, h3⟩ := h
  exact ⟨cs, own_new h1 hb, h2.keep (KA.below hb), blw h3 hb⟩
theorem own_heap {W : World} {base g cap n : Nat} {e : TypeId} {s : Nat} {cs : List Value} (h : W.ownsRow base e s (.slice (some ⟨g, 0, none⟩) n cap) n cs) : base ≤ g ∧ ∃ us, W.heap[g]? = some (.cells us e (0, 0)) := by
  rcases h.2 with ⟨x1, _⟩ | ⟨g', cap', cur, x1, x2, x3, _⟩
  · cases x1
  · cases x1; exact ⟨x2, cur, x3⟩
theorem TuI.ptr {w wr : World} {p : Option Addr} {cap : Nat} {gs : List Ag} (h : TuI w wr p cap gs) (h0 : 0 < gs.length) : ∃ g, p = some ⟨g, 0, none⟩ := by
  obtain ⟨cs, h1, _⟩ := h
  rcases h1.2 with ⟨x1, x2⟩ | ⟨g', cap', cur, x1, _⟩
  · omega
  · injection x1 with x1; exact ⟨g', x1⟩
theorem TuI.cap {w wr : World} {p : Option Addr} {cap : Nat} {gs : List Ag} (h : TuI w wr p cap gs) : gs.length ≤ cap ∧ cap ≤ maxLen := by
  obtain ⟨cs, h1, _⟩ := h
  rcases h1.2 with ⟨x1, x2⟩ | ⟨g', cap', cur, x1, _, _, x4, x5, _⟩
  · injection x1 with y1 y2 y3
    omega
  · injection x1 with y1 y2 y3
    subst y3
    exact ⟨x4, x5⟩
theorem TuI.arms {w wr : World} {g cap : Nat} {gs : List Ag} (h : TuI w wr (some ⟨g, 0, none⟩) cap gs) {i : Nat} (hi : i < gs.length) {q : Option Addr} {d : Nat} {l : List Hd} (hl : HdsM w wr w.heap.size q d l) : TuI w (wr.setCell ⟨g, i * 4 + 2, none⟩ (.slice q l.length d)) (some ⟨g, 0, none⟩) cap (gs.set i ⟨gs[i].id, gs[i].awake, l, gs[i].held⟩) := by
  obtain ⟨cs, h1, h2, h3⟩ := h
  obtain ⟨hg, us, hu⟩ := own_heap h1
  have hk : KA wr (wr.setCell ⟨g, i * 4 + 2, none⟩ (.slice q l.length d)) := KA.set hu
  refine ⟨_, by rw [List.length_set]; exact (h1.stored (i * 4 + 2) _).1, h2.arms hk hi (hl.keep hk), h3.setCell hg _⟩
theorem TuI.held {w wr : World} {g cap : Nat} {gs : List Ag} (h : TuI w wr (some ⟨g, 0, none⟩) cap gs) {i : Nat} (hi : i < gs.length) {q : Option Addr} {d : Nat} {l : List Int} (hl : IntsM w wr w.heap.size q d l) : TuI w (wr.setCell ⟨g, i * 4 + 3, none⟩ (.slice q l.length d)) (some ⟨g, 0, none⟩) cap (gs.set i ⟨gs[i].id, gs[i].awake, gs[i].arms, l⟩) := by
  obtain ⟨cs, h1, h2, h3⟩ := h
  obtain ⟨hg, us, hu⟩ := own_heap h1
  have hk : KA wr (wr.setCell ⟨g, i * 4 + 3, none⟩ (.slice q l.length d)) := KA.set hu
  refine ⟨_, by rw [List.length_set]; exact (h1.stored (i * 4 + 3) _).1, h2.held hk hi (hl.keep hk), h3.setCell hg _⟩
theorem TuI.awk {w wr : World} {g cap : Nat} {gs : List Ag} (h : TuI w wr (some ⟨g, 0, none⟩) cap gs) {i : Nat} (hi : i < gs.length) (b : Bool) : TuI w (wr.setCell ⟨g, i * 4 + 1, none⟩ (.bool b)) (some ⟨g, 0, none⟩) cap (gs.set i ⟨gs[i].id, b, gs[i].arms, gs[i].held⟩) := by
  obtain ⟨cs, h1, h2, h3⟩ := h
  obtain ⟨hg, us, hu⟩ := own_heap h1
  have hk : KA wr (wr.setCell ⟨g, i * 4 + 1, none⟩ (.bool b)) := KA.set hu
  refine ⟨_, by rw [List.length_set]; exact (h1.stored (i * 4 + 1) _).1, h2.awk hk hi b, h3.setCell hg _⟩
theorem TuI.read {w wr : World} {p : Option Addr} {cap : Nat} {gs : List Ag} (h : TuI w wr p cap gs) : AgsR wr p cap gs ∧ Below w.heap.size w wr := by
  obtain ⟨cs, h1, h2, h3⟩ := h
  obtain ⟨p', c', e, hr⟩ := AgX.read h1 h2 h3
  cases e
  exact ⟨hr, h3⟩
/-- append(nil, s...) -/
theorem wpList_copy (w0 w : World) {ops : Array Oper} {rest : List Oper} {o : Oper} {a : Act} {Q : Exit → Act → World → Prop}
    (hg : o.guard = none) (x : Operand) (hop : o.op = Op.call { callee := Callee.builtin Builtin.append, args := #[.const (.slice none 0 0), x], argTypes := #[22, 22] })
    (p : Option Addr) (c : Nat) (s : List Ag) (hs : AgsR w0 p c s) (hb : Below w0.heap.size w0 w) (hl : s.length ≤ 2147483647) (hx : a.eval x = .slice p s.length c)
    (hK : ∀ tp tc w', TuI w0 w' tp tc s → Below w.heap.size w w' → wpList Try.prog ops Q rest (a.put o.dst (.slice tp s.length tc)) w') : wpList Try.prog ops Q (o :: rest) a w := by
  obtain ⟨i0, hi, iz0, iz1, iz2⟩ := info_parts infoG
  obtain ⟨cs, h1, h2, h3⟩ := AgX.of hs w0.heap.size
  by_cases h0 : s.length = 0
  · obtain rfl : s = [] := List.eq_nil_of_length_eq_zero h0
    refine wpList_app0 w hg (.const (.slice none 0 0)) x 22 hop 32 i0 4 Try.underlying22 hi rfl p c hx ?_
    exact hK none 0 w ⟨[], ⟨rfl, .inl ⟨rfl, rfl⟩⟩, AgX.nil _ _ _, hb⟩ (Below.refl _ _)
  · obtain ⟨b, o', ap, ac, hp, hc, rfl, _⟩ := hs.at_ 0 (by omega)
    have hlen := h1.1
    refine wpList_app w hg (.const (.slice none 0 0)) x 22 hop w0.heap.size 32 i0 (.agg #[.int .i64 0, .bool false, .slice none 0 0, .slice none 0 0]) 4 64 Try.underlying22 hi iz0 iz1 iz2 rfl (by decide) (.slice none 0 0) 0 [] rfl ⟨rfl, .inl ⟨rfl, rfl⟩⟩ ⟨b, o', none⟩ s.length c cs hx hlen (fun j u hj => ?_) h3 (by omega) (by unfold maxLen; omega) (by omega) hb.size w.heap.size rfl ?_
    · have h := h2 b o' rfl j u hj
      rw [add_off] at h ⊢
      exact (hb.cell (p := ⟨b, o' + j, none⟩) (World.block_lt_of_cell? w0 _ h)).trans h
    · intro g cap w' hown hgrow hgi hgl
      have hbw : Below w.heap.size w w' := (Below.refl _ _).grown hgrow (Nat.le_refl _) (fun r e => by cases e)
      have e : 0 + s.length = s.length := by omega
      rw [e] at hown ⊢
      rw [List.nil_append] at hown
      exact hK _ cap w' ⟨cs, hown, h1.keep ((KA.below hb).trans (KA.below hbw)), blw hb hbw⟩ hbw
theorem turn_next (s : List Ag) (i : Nat) (h : i < s.length) : ((s.take i).map turnA ++ s.drop i).set i (turnA s[i]) = (s.take (i + 1)).map turnA ++ s.drop (i + 1) := by
  have hl : ((s.take i).map turnA).length = i := by rw [List.length_map, List.length_take]; omega
  rw [List.drop_eq_getElem_cons h, List.set_append_right _ _ (by omega), hl, Nat.sub_self, List.set_cons_zero, List.take_succ_eq_append_getElem h, List.map_append, List.append_assoc]
  rfl
theorem turn_at (s : List Ag) (i : Nat) (h : i < s.length) : ∃ h', ((s.take i).map turnA ++ s.drop i)[i]'h' = s[i] := by
  have hl : ((s.take i).map turnA).length = i := by rw [List.length_map, List.length_take]; omega
  refine ⟨by rw [List.length_append, hl, List.length_drop]; omega, ?_⟩
  rw [List.getElem_append_right (by omega), List.getElem_drop]
  congr 1
  omega
end Go.Proofs.Ytjfabholalnbeab
namespace Go.Proofs.Ytjfabholalnbeab
open Go.RowKit
set_option linter.unusedVariables false
set_option linter.unusedSimpArgs false

/-! ### the ring, in plain words -/
def rgX (n i : Nat) : Int := 3 + (((i + 1) % n : Nat) : Int)
def rgH (n i : Nat) : List Int := if 3 + (i : Int) < rgX n i then [3 + (i : Int), rgX n i] else [rgX n i, 3 + (i : Int)]
def rgA (n i : Nat) : Ag := ⟨(i : Int), false, [⟨3 + (i : Int), false⟩], rgH n i⟩
def rgL (n i : Nat) : List Ag := (List.range i).map (rgA n)
def rgN (i : Nat) : List Int := (List.range i).map fun j : Nat => (j : Int)
theorem rgL_succ (n i : Nat) : rgL n (i + 1) = rgL n i ++ [rgA n i] := by unfold rgL; rw [List.range_succ, List.map_append]; rfl
theorem rgN_succ (i : Nat) : rgN (i + 1) = rgN i ++ [(i : Int)] := by unfold rgN; rw [List.range_succ, List.map_append]; rfl
theorem rgL_len (n i : Nat) : (rgL n i).length = i := by simp [rgL]
theorem rgN_len (i : Nat) : (rgN i).length = i := by simp [rgN]
theorem rgX_ne {n i : Nat} (h : 2 ≤ n) (hi : i < n) : rgX n i ≠ 3 + (i : Int) := by
  unfold rgX
  rcases Nat.lt_or_ge (i + 1) n with h1 | h1
  · rw [Nat.mod_eq_of_lt h1]; omega
  · obtain rfl : n = i + 1 := by omega
    rw [Nat.mod_self]; omega
theorem rgX_64 {n i : Nat} (h : 2 ≤ n) (h2 : n ≤ 21) : I64 (rgX n i) := by
  have := Nat.mod_lt (i + 1) (show n > 0 by omega)
  unfold rgX
  exact ⟨by omega, by omega⟩
theorem rg_put {a x : Int} {k : Nat} (hk : k ≤ 1) (h1 : ∀ y ∈ [a].take k, y < x) (h2 : ∀ h : k < [a].length, x ≤ [a][k]) : [a].take k ++ x :: [a].drop k = if a < x then [a, x] else [x, a] := by
  match k, hk with
  | 0, _ =>
    have := h2 (by simp)
    simp only [List.getElem_cons_zero] at this
    rw [if_neg (by omega)]
    rfl
  | 1, _ =>
    have := h1 a (by simp)
    rw [if_pos this]
    rfl
set_option maxRecDepth 100000 in
theorem ring_ok : ∀ j, j < 20 → stOk (rgL (2 + j) (2 + j)) = true ∧ totA (rgL (2 + j) (2 + j)) ≤ 2147483647 := by decide
theorem ring_ids (n : Nat) : idsK (rgL n n) = rgN n := by
  unfold idsK rgL rgN
  rw [List.map_map]
  rfl
theorem ring_dead {n : Nat} {Y : Int → Option Wy} (hY : Full (rgL n n) Y) : ddL Y (rgL n n) = rgN n := by
  rw [dead_all hY (fun a ha => ?_) (fun a ha x hx => ?_), ring_ids]
  · obtain ⟨i, _, rfl⟩ := List.mem_map.1 ha; rfl
  · obtain ⟨i, _, rfl⟩ := List.mem_map.1 ha
    have e : x = ⟨3 + (i : Int), false⟩ := by simpa [rgA] using hx
    subst e
    refine ⟨?_, rfl⟩
    unfold wldI
    have h1 : ((3 + (i : Int)) == 1) = false := by simp; omega
    have h2 : ((3 + (i : Int)) == 2) = false := by simp; omega
    simp only [h1, h2, Bool.false_and, Bool.or_false]
/-! ### .. and in memory -/
def RgW (w wr : World) (v12 v13 : Value) (gs : List Ag) (ns : List Int) (cs : List Value) : Prop :=
  wr.ownsRow w.heap.size 32 4 v12 gs.length cs ∧ AgX w wr w.heap.size gs cs ∧ wr.ownsRow w.heap.size 3 1 v13 ns.length (rowC ns) ∧ (∀ u ∈ cs, ∀ g, u.ownBlock = some g → v13.ownBlock ≠ some g ∧ g < wr.heap.size) ∧ Below w.heap.size w wr
theorem own_at {W : World} {base g : Nat} {e : TypeId} {z n : Nat} {us : Array Value} (hb : base ≤ g) (h : W.heap[g]? = some (.cells us e (0, 0))) (hs : us.size = n * z) (hn : n ≤ maxLen) : W.ownsRow base e z (.slice (some ⟨g, 0, none⟩) n n) n us.toList :=
  ⟨by simpa using hs, .inr ⟨g, n, us, rfl, hb, h, Nat.le_refl _, hn, hs, List.take_of_length_le (by simp [hs])⟩⟩
/-- one more in the ring -/
theorem rg_add {w wr w5 w7 : World} {v12 v13 : Value} {gs : List Ag} {ns : List Int} {cs : List Value} {o : Obj} {gg cap : Nat} {a : Ag} {ap hp : Option Addr} {ac hc : Nat} (h : RgW w wr v12 v13 gs ns cs) (hb5 : Below wr.heap.size wr w5) (h1 : I64 a.id) (h2 : HdsM w w5 w.heap.size ap ac a.arms) (h3 : IntsM w w5 w.heap.size hp hc a.held)
    (h4 : ∀ g, (Value.slice ap a.arms.length ac).ownBlock = some g → wr.heap.size ≤ g ∧ g < w5.heap.size) (h5 : ∀ g, (Value.slice hp a.held.length hc).ownBlock = some g → wr.heap.size ≤ g ∧ g < w5.heap.size)
    (ho : w7.ownsRow w.heap.size 32 4 (.slice (some ⟨gg, 0, none⟩) (gs.length + 1) cap) (gs.length + 1) (cs ++ [.int .i64 a.id, .bool a.awake, .slice ap a.arms.length ac, .slice hp a.held.length hc])) (hg : (w5.alloc o).grownBy w7 v12.ownBlock) : RgW w w7 (.slice (some ⟨gg, 0, none⟩) (gs.length + 1) cap) v13 (gs ++ [a]) ns (cs ++ [.int .i64 a.id, .bool a.awake, .slice ap a.arms.length ac, .slice hp a.held.length hc]) := by
  obtain ⟨g1, g2, g3, g4, g5⟩ := h
  have hb6 := below1 w5 o
  have hb56 := blw hb5 hb6
  have hk5 : KA w5 w7 := (KA.below hb6).trans (KA.grown (own_new (own_new g1 hb5) hb6) hg)
  have hk : KA wr w7 := (KA.below hb5).trans hk5
  have hb := blw g5 hb56
  have hsz := hk5.size
  have hsz2 := hb5.size
  refine ⟨by rw [List.length_append]; exact ho, (g2.keep hk).snoc h1 (h2.keep hk5) (h3.keep hk5), hk.own g3 (by decide), fun u hu g hug => ?_, hb.grown hg hb.size (fun r e => own_base g1 r e)⟩
  have hv : ∀ g, v13.ownBlock = some g → g < wr.heap.size := fun g e => by
    obtain ⟨us, hus⟩ := own_blk_lt g3 e
    exact (Array.getElem?_eq_some_iff.1 hus).1
  rcases List.mem_append.1 hu with hu | hu
  · obtain ⟨q1, q2⟩ := g4 u hu g hug
    exact ⟨q1, by omega⟩
  · have hnew : wr.heap.size ≤ g ∧ g < w5.heap.size := by
      simp only [List.mem_cons, List.not_mem_nil, or_false] at hu
      rcases hu with rfl | rfl | rfl | rfl
      · cases hug
      · cases hug
      · exact h4 g hug
      · exact h5 g hug
    exact ⟨fun e => by have := hv g e; omega, by omega⟩
/-- one more number -/
theorem rg_num {w w7 w9 : World} {v12 v13 : Value} {gs : List Ag} {ns : List Int} {cs : List Value} {o : Obj} {g9 cap9 : Nat} {x : Int} (h : RgW w w7 v12 v13 gs ns cs) (ho : w9.ownsRow w.heap.size 3 1 (.slice (some ⟨g9, 0, none⟩) (ns.length + 1) cap9) (ns.length + 1) (rowC ns ++ [.int .i64 x])) (hg : (w7.alloc o).grownBy w9 v13.ownBlock) (hi : v13.ownBlock = some g9 ∨ g9 = w7.heap.size + 1) : RgW w w9 v12 (.slice (some ⟨g9, 0, none⟩) (ns.length + 1) cap9) gs (ns ++ [x]) cs := by
  obtain ⟨g1, g2, g3, g4, g5⟩ := h
  have hb6 := below1 w7 o
  have hsz : w7.heap.size < w9.heap.size := by
    have := hg.size
    simp at this
    omega
  have keep : ∀ b ob, w7.heap[b]? = some ob → v13.ownBlock ≠ some b → w9.heap[b]? = some ob := fun b ob hb hne => by
    have hlt := (Array.getElem?_eq_some_iff.1 hb).1
    rw [hg.block b (by simp; omega) (fun e => hne (by rw [e])), hb6.block b hlt]
    exact hb
  have rowk : ∀ {e : TypeId} {z n : Nat} {v : Value} {xs : List Value}, w7.ownsRow w.heap.size e z v n xs → (∀ g, v.ownBlock = some g → v13.ownBlock ≠ some g) → w9.ownsRow w.heap.size e z v n xs := fun {e z n v xs} hr hne => own_same hr (fun g ob he hob => keep g ob hob (hne g he))
  have hkind : ∀ g, v12.ownBlock = some g → v13.ownBlock ≠ some g := fun g e1 e2 => by
    obtain ⟨us, h1⟩ := own_blk_lt g1 e1
    obtain ⟨us2, h2⟩ := own_blk_lt g3 e2
    rw [h1] at h2
    injection h2 with h2
    injection h2 with _ h2
    exact absurd h2 (by decide)
  have hb := blw g5 hb6
  refine ⟨rowk g1 hkind, ⟨g2.1, fun i hi => ?_⟩, by rw [List.length_append, rowC_snoc]; exact ho, fun u hu g hug => ?_, hb.grown hg hb.size (fun r e => own_base g3 r e)⟩
  · obtain ⟨ap, ac, hp, hc, q1, q2, q3, q4, q5, q6, q7⟩ := g2.2 i hi
    refine ⟨ap, ac, hp, hc, q1, ?_, ?_, q4, q5, q6, q7⟩
    · rcases q2 with q2 | ⟨q2, q2'⟩
      · exact .inl q2
      · exact .inr ⟨rowk q2 (fun g e => (g4 _ (List.mem_of_getElem? q6) g e).1), q2'⟩
    · rcases q3 with q3 | ⟨q3, q3'⟩
      · exact .inl q3
      · exact .inr ⟨rowk q3 (fun g e => (g4 _ (List.mem_of_getElem? q7) g e).1), q3'⟩
  · obtain ⟨q1, q2⟩ := g4 u hu g hug
    refine ⟨fun e => ?_, by omega⟩
    have e' : g9 = g := by
      have : (some g9 : Option Nat) = some g := e
      injection this
    rcases hi with hi | hi
    · rw [e'] at hi; exact q1 hi
    · omega
end Go.Proofs.Ytjfabholalnbeab
