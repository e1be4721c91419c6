import Derived.Test.YtjabdhmkibahlaaCENa
import Derived.Test.YtjabdhmkibahlaaCGN
namespace Go.Proofs.Ytjabdhmkibahlaa
open Go.RowKit Go.MapKept Go.ChangeMaps Go.WideShapes
set_option linter.unusedVariables false
set_option linter.unusedSimpArgs false

/-! ### who is dead -/
/-- the ways of all that can be woken -/
def Full (s : List Ag) (Y : Int → Option Wy) : Prop := ∃ k A N, Lvl (whoD s) (atD s) (N0D s) k A Y N ∧ ∀ id, N id = none
def ddA (Y : Int → Option Wy) (a : Ag) : Bool := !(Y a.id).isSome && !a.awake
def ddL (Y : Int → Option Wy) (s : List Ag) : List Int := (s.filter (ddA Y)).map (·.id)
theorem ddL_snoc (Y : Int → Option Wy) (s : List Ag) (a : Ag) : ddL Y (s ++ [a]) = if ddA Y a then ddL Y s ++ [a.id] else ddL Y s := by
  unfold ddL
  rw [List.filter_append, List.map_append]
  cases h : ddA Y a <;> simp [h]
theorem ddL_len (Y : Int → Option Wy) (s : List Ag) : (ddL Y s).length ≤ s.length := by unfold ddL; rw [List.length_map]; exact List.length_filter_le _ _
/-- what a level names is an agent -/
theorem lvl_mem {s : List Ag} {k : Nat} {A : Int → List Int} {Y : Int → Option Wy} {N : Int → Option Lk} (h : Lvl (whoD s) (atD s) (N0D s) k A Y N) : (∀ c, ∀ id ∈ A c, id ∈ idsK s) ∧ ∀ id, N id ≠ none → id ∈ idsK s := by
  induction h with
  | one => exact ⟨fun c id hi => by
      obtain ⟨a, ha, rfl, _⟩ := (atD_mem s c id).1 hi
      exact List.mem_map.2 ⟨a, ha, rfl⟩, fun id hi => ou_mem _ _ s id hi⟩
  | step h1 hi hp ih =>
    refine ⟨fun c id hid => ?_, fun id hid => ?_⟩
    · unfold cutA at hid
      split at hid
      · cases hid
      · exact ih.1 c id hid
    · obtain ⟨_, _, c, _, q2⟩ := hp.no id hid
      exact ih.1 c id q2
theorem full_of {s : List Ag} (hok : stOk s = true) {Y : Int → Option Wy} (h : FdR s (-1) Y) : Full s Y := by
  obtain ⟨k, A, Y', N, h1, _, h2, h3⟩ := h
  rcases h3 with ⟨h3, rfl⟩ | ⟨⟨l, h3, _⟩, _⟩
  · exact ⟨k, A, N, h1, h3⟩
  · have := (lvl_mem h1).2 (-1) (by rw [h3]; simp)
    obtain ⟨a, ha, e⟩ := List.mem_map.1 this
    have := (st_all hok a ha).2
    omega
def DdPost (w : World) (s : List Ag) (e : Ending) (w' : World) : Prop := ∃ Y q d, Full s Y ∧ e = .returned (.tuple #[.slice q (ddL Y s).length d, .int .i64 0]) ∧ IntsR w' q d (ddL Y s) ∧ Below w.heap.size w w'
set_option maxRecDepth 100000 in
theorem Dead_nb (w : World) (p : Option Addr) (c : Nat) (s : List Ag) (h : AgsR w p c s) (ht : totA s ≤ 8589934592) (hok : stOk s = false) : Calls Try.prog 25 #[.slice p s.length c] w fun e w' => e = .returned (.tuple #[.slice none 0 0, .int .i64 140]) ∧ Below w.heap.size w w' := by
  have HC : Bx (Calls Try.prog 9 #[.slice p s.length c] w fun e w' => e = .returned (.int .i64 140) ∧ Below w.heap.size w w') := ⟨by
    have := Check_big w p c s h (few2_of ht)
    rw [show chkI s = 140 by simp [chkI, hok]] at this
    exact this⟩
  clear h hok
  go_enter Try.func25, Try.ntmps25
  go_wp2_with (first | (go_at_call 9; refine Calls.mono HC.out ?_; rintro e w1 ⟨rfl, hb1⟩))
  exact bodyPost_ret (v := .tuple #[.slice none 0 0, .int .i64 140]) (by simp [results, Try.results25, go_sem]) rfl ⟨rfl, hb1⟩
theorem dd_app {w Z w9 : World} {ym n gg gcap : Nat} {Y : Int → Option Wy} {u : Value} {pre : List Int} {id : Int} (h : Z.ownsRow w.heap.size 3 1 u pre.length (rowC pre) ∧ Below w.heap.size w Z ∧ WyM Z ym n Y) (ho : w9.ownsRow w.heap.size 3 1 (.slice (some ⟨gg, 0, none⟩) (pre.length + 1) gcap) (pre.length + 1) (rowC pre ++ [.int .i64 id])) (hg : (Z.alloc (.cells #[.int .i64 id] 3)).grownBy w9 u.ownBlock) : Bx (w9.ownsRow w.heap.size 3 1 (.slice (some ⟨gg, 0, none⟩) (pre.length + 1) gcap) (pre.length + 1) (rowC (pre ++ [id])) ∧ Below w.heap.size w w9 ∧ WyM w9 ym n Y) := by
  have h1 := below1 Z (.cells #[.int .i64 id] 3)
  have h2 := h.2.1.trans (h1.mono h.2.1.size)
  refine ⟨by rw [rowC_snoc]; exact ho, h2.grown hg h2.size (fun r e => own_base h.1 r e), ?_⟩
  have h3 := MpI.below h.2.2 h1
  refine MpI.same h3 (hg.block ym (MpI.lt h3) (fun e => ?_))
  obtain ⟨us, hu⟩ := own_blk_lt h.1 e.symm
  obtain ⟨D, ⟨es, clock, h0, _⟩, _⟩ := MpI.ex h.2.2
  rw [hu] at h0
  cases h0
/-- .. in a row of one's own -/
def DdOwn (w : World) (s : List Ag) (e : Ending) (w' : World) : Prop := ∃ Y q d, Full s Y ∧ e = .returned (.tuple #[.slice q (ddL Y s).length d, .int .i64 0]) ∧ IntsR w' q d (ddL Y s) ∧ Below w.heap.size w w' ∧ w'.ownsRow w.heap.size 3 1 (.slice q (ddL Y s).length d) (ddL Y s).length (rowC (ddL Y s))
set_option maxRecDepth 100000 in
set_option maxHeartbeats 4000000 in
theorem Dead_ob (w : World) (p : Option Addr) (c : Nat) (s : List Ag) (h : AgsR w p c s) (ht : totA s ≤ 8589934592) (hok : stOk s = true) : Calls Try.prog 25 #[.slice p s.length c] w (DdOwn w s) := by
  obtain ⟨i0, hi, iz0, iz1, iz2⟩ := info_parts infoI
  have hlc := h.len
  have hcm := h.max
  unfold maxLen at hcm
  have hl := st_len hok
  have HS : Bx (AgsR w p c s) := ⟨h⟩
  have HOK : Bx (stOk s = true) := ⟨hok⟩
  have HC : Bx (Calls Try.prog 9 #[.slice p s.length c] w fun e w' => e = .returned (.int .i64 0) ∧ Below w.heap.size w w') := ⟨by
    have := Check_big w p c s h (few2_of ht)
    rw [show chkI s = 0 by simp [chkI, hok]] at this
    exact this⟩
  have hso : I64 (-1) := ⟨by omega, by omega⟩
  clear h hok
  go_enter Try.func25, Try.ntmps25
  go_wp2_with (first
    | (go_at_call 9; refine Calls.mono HC.out ?_; rintro e w1 ⟨rfl, hb1⟩; have B1 : Bx _ := ⟨hb1⟩; clear hb1 HC)
    | (go_at_call 50; refine Calls.mono (find_any w1 p c s (-1) (HS.out.later B1.out) hl ht hso) ?_; rintro e w2 ⟨ym, n, Y, rfl, hY, hF, hn, hb2⟩; have I2 : Bx (WyM w2 ym n Y ∧ Full s Y ∧ Below w.heap.size w w2) := ⟨hY, full_of HOK.out hF, B1.out.trans (hb2.mono B1.out.size)⟩; clear hY hF hn hb2))
  go_loopg [6, 20] (s.length + 1) (fun k v6 v20 wr => ∃ i, k = s.length + 1 - i ∧ i ≤ s.length ∧ v20 = .int .i64 (i : Nat) ∧ Bx (wr.ownsRow w.heap.size 3 1 v6 (ddL Y (s.take i)).length (rowC (ddL Y (s.take i))) ∧ Below w.heap.size w wr ∧ WyM wr ym n Y))
  case atStart => exact ⟨0, by simp, by omega, rfl, ⟨⟨rfl, .inl ⟨rfl, rfl⟩⟩, I2.out.2.2, I2.out.1⟩⟩
  case round =>
    obtain ⟨i, hk, hil, rfl, HR⟩ := hrel
    by_cases hlt : i < s.length
    · obtain ⟨b, o, ap, ac, hp, hc, rfl, hA, hcl⟩ := HS.out.at_ i hlt
      have hbr := HR.out.2.1
      obtain ⟨c0, c1, c2, c3⟩ := hcl wr hbr
      have HT : Bx (ddL Y (s.take (i + 1)) = if ddA Y s[i] then ddL Y (s.take i) ++ [s[i].id] else ddL Y (s.take i)) := ⟨by rw [List.take_succ_eq_append_getElem hlt, ddL_snoc]⟩
      have hln : (ddL Y (s.take i)).length ≤ 4096 := by
        have := ddL_len Y (s.take i)
        rw [List.length_take] at this
        omega
      have hid := hA.id
      clear hcl hA HS
      generalize s[i] = a at *
      generalize ddL Y (s.take i) = pre at *
      obtain ⟨id, aw, arms, held⟩ := a
      simp only at c0 c1 c2 c3 HT hid
      obtain ⟨X, hX⟩ : ∃ X, wr.alloc (.cells #[.int .i64 id, .bool aw, .slice ap arms.length ac, .slice hp held.length hc] 53) = X := ⟨_, rfl⟩
      have hbX : Below wr.heap.size wr X := by rw [← hX]; exact below1 _ _
      have hkX : X.heap[wr.heap.size]? = some (.cells #[.int .i64 id, .bool aw, .slice ap arms.length ac, .slice hp held.length hc] 53 (0, 0)) := by rw [← hX]; exact World.alloc_heap_new _ _
      have hlk := WyM.look2 (MpI.below HR.out.2.2 hbX) hid
      obtain ⟨Z, hZ⟩ : ∃ Z, X.alloc (.cells #[.int .i64 (wy0 (Y id)).1, .int .i64 (wy0 (Y id)).2.waker, .int .i64 (wy0 (Y id)).2.woken, .int .i64 (wy0 (Y id)).2.chan] 83) = Z := ⟨_, rfl⟩
      have hbZ : Below X.heap.size X Z := by rw [← hZ]; exact below1 _ _
      have hbXZ := hbX.trans (hbZ.mono hbX.size)
      have hkZ : Z.heap[wr.heap.size]? = some (.cells #[.int .i64 id, .bool aw, .slice ap arms.length ac, .slice hp held.length hc] 53 (0, 0)) := (hbZ.block _ (Array.getElem?_eq_some_iff.1 hkX).1).trans hkX
      have d0 : X.cell? ⟨wr.heap.size, 0, none⟩ = some (.int .i64 id) := cell_of hkX rfl
      have e0 : Z.cell? ⟨wr.heap.size, 0, none⟩ = some (.int .i64 id) := cell_of hkZ rfl
      have e1 : Z.cell? ⟨wr.heap.size, 1, none⟩ = some (.bool aw) := cell_of hkZ rfl
      have hbw : Below w.heap.size w Z := hbr.trans (hbXZ.mono hbr.size)
      have HO : Bx (Z.ownsRow w.heap.size 3 1 u6 pre.length (rowC pre) ∧ Below w.heap.size w Z ∧ WyM Z ym n Y) := ⟨own_new HR.out.1 hbXZ, hbw, MpI.below HR.out.2.2 hbXZ⟩
      have HXE : Bx (_ = X) := ⟨hX⟩
      have HZE : Bx (_ = Z) := ⟨hZ⟩
      have HZS : Bx (Z.heap.size = wr.heap.size + 2) := ⟨by rw [← hZ, ← hX]; simp⟩
      rw [← hZ] at e0 e1
      rw [← hX] at d0 hlk e0 e1
      clear hX hZ hbX hbZ hkX hkZ hbXZ hbw HR hbr
      cases hyi : (Y id).isSome with
      | true =>
        rw [hyi] at hlk
        replace HT : Bx (ddL Y (s.take (i + 1)) = pre) := ⟨by rw [HT.out, if_neg (by simp [ddA, hyi])]⟩
        go_wp2
        rw [HXE.out, HZE.out]
        go_roundg (s.length + 1 - (i + 1))
        case measure => omega
        case rel => exact ⟨i + 1, rfl, by omega, by simp, ⟨by rw [HT.out]; exact HO.out.1, HO.out.2⟩⟩
      | false =>
        rw [hyi] at hlk
        cases aw with
        | true =>
          replace HT : Bx (ddL Y (s.take (i + 1)) = pre) := ⟨by rw [HT.out, if_neg (by simp [ddA])]⟩
          go_wp2
          rw [HXE.out, HZE.out]
          go_roundg (s.length + 1 - (i + 1))
          case measure => omega
          case rel => exact ⟨i + 1, rfl, by omega, by simp, ⟨by rw [HT.out]; exact HO.out.1, HO.out.2⟩⟩
        | false =>
          replace HT : Bx (ddL Y (s.take (i + 1)) = pre ++ [id]) := ⟨by rw [HT.out, if_pos (by simp [ddA, hyi])]⟩
          have hsz : w.heap.size ≤ Z.heap.size := HO.out.2.1.size
          go_wp2_with (first | (at_builtin; rw [HXE.out, HZE.out]; refine wpList_app _ rfl (.tmp 38) (.tmp 41) 45 rfl w.heap.size 3 i0 (.int .i64 0) 1 8 Try.underlying45 hi iz0 iz1 iz2 rfl (by decide) u6 pre.length (rowC pre) rfl (own_new HO.out.1 (below1 _ _)) ⟨wr.heap.size + 2, 0, none⟩ 1 1 [.int .i64 id] rfl rfl (block_cells _ _ _ 3 (by rw [← HZS.out]; exact World.alloc_heap_new _ _)) (by simp [Value.oneCell']) (by decide) (by unfold maxLen; omega) (by omega) (by simp; omega) (wr.heap.size + 3) (by have := HZS.out; simp; omega) ?_; intro gg gcap w9 hown9 hgrow9 hgi9 hgl9; have HN := dd_app HO.out hown9 hgrow9; clear hown9 hgrow9 hgi9))
          go_roundg (s.length + 1 - (i + 1))
          case measure => omega
          case rel => exact ⟨i + 1, rfl, by omega, by simp, ⟨by rw [HT.out, List.length_append]; exact HN.out.1, HN.out.2⟩⟩
    · have hie : i = s.length := by omega
      subst hie
      rw [List.take_length] at HR
      have HV : Bx (∃ q d, u6 = .slice q (ddL Y s).length d ∧ IntsR wr q d (ddL Y s)) := ⟨ids_read HR.out.1 (fun x hx => by
        obtain ⟨a, ha, rfl⟩ := List.mem_map.1 hx
        obtain ⟨j, hj, rfl⟩ := List.mem_iff_getElem.1 (List.mem_filter.1 ha).1
        obtain ⟨_, _, _, _, _, _, _, h1, _⟩ := HS.out.at_ j hj
        exact h1.id)⟩
      obtain ⟨q, d, hu, hq⟩ := HV.out
      subst hu
      have HQ : Bx _ := ⟨hq⟩
      have HB : Bx _ := ⟨HR.out.2.1⟩
      have HOW : Bx _ := ⟨HR.out.1⟩
      clear hq HV HR
      go_wp2
      exact bodyPost_ret (v := .tuple #[.slice q (ddL Y s).length d, .int .i64 0]) (by simp [results, Try.results25, go_sem]) rfl ⟨Y, q, d, I2.out.2.1, rfl, HQ.out, HB.out, HOW.out⟩
theorem Dead_yb (w : World) (p : Option Addr) (c : Nat) (s : List Ag) (h : AgsR w p c s) (ht : totA s ≤ 8589934592) (hok : stOk s = true) : Calls Try.prog 25 #[.slice p s.length c] w (DdPost w s) := (Dead_ob w p c s h ht hok).mono fun e w' ⟨Y, q, d, h1, h2, h3, h4, _⟩ => ⟨Y, q, d, h1, h2, h3, h4⟩
theorem Dead_no (w : World) (p : Option Addr) (c : Nat) (s : List Ag) (h : AgsR w p c s) (ht : totA s ≤ 2147483647) (hok : stOk s = false) : Calls Try.prog 25 #[.slice p s.length c] w fun e w' => e = .returned (.tuple #[.slice none 0 0, .int .i64 140]) ∧ Below w.heap.size w w' := Dead_nb w p c s h (Nat.le_trans ht (by decide)) hok
theorem Dead_yes (w : World) (p : Option Addr) (c : Nat) (s : List Ag) (h : AgsR w p c s) (ht : totA s ≤ 2147483647) (hok : stOk s = true) : Calls Try.prog 25 #[.slice p s.length c] w (DdPost w s) := Dead_yb w p c s h (Nat.le_trans ht (by decide)) hok
end Go.Proofs.Ytjabdhmkibahlaa
namespace Go.Proofs.Ytjabdhmkibahlaa
open Go.RowKit Go.MapKept Go.ChangeMaps Go.WideShapes
set_option linter.unusedVariables false
set_option linter.unusedSimpArgs false

/-! ### who wakes, in plain words -/
theorem lkd_wk {a : Ag} {wk : Hd → Option Int} {l : Lk} (h : lkD a wk = some l) : ∃ x ∈ a.arms, wk x = some l.waker ∧ l.woken = a.id ∧ l.chan = x.chan := by
  unfold lkD at h
  obtain ⟨x, hx, h⟩ := List.exists_of_findSome?_eq_some h
  cases hw : wk x with
  | none => rw [hw] at h; cases h
  | some i => rw [hw] at h; cases h; exact ⟨x, hx, hw, rfl, rfl⟩
theorem ho_val (f : Int → Ag) (A : Int → List Int) (ids : List Int) (c i : Int) (h : hoD f A ids c = some i) : i ∈ ids := by
  have step : ∀ (id : Int) (l : List Int) (H : Int → Option Int), (hoHeld A id H l c = some i) → H c = some i ∨ i = id := by
    intro id l
    induction l with
    | nil => intro H h; exact .inl h
    | cons x r ih =>
      intro H h
      rcases ih (hoStep A id H x) h with h | h
      · unfold hoStep at h
        split at h
        · by_cases e : c = x
          · subst e; rw [upd_same] at h; cases h; exact .inr rfl
          · rw [upd_other _ _ e] at h; exact .inl h
        · exact .inl h
      · exact .inr h
  have key : ∀ (ids : List Int) (H : Int → Option Int), hoF f A H ids c = some i → H c = some i ∨ i ∈ ids := by
    intro ids
    induction ids with
    | nil => intro H h; exact .inl h
    | cons x r ih =>
      intro H h
      rcases ih (hoHeld A x H (f x).held) h with h | h
      · rcases step x _ H h with h | h
        · exact .inl h
        · exact .inr (by rw [h]; exact List.mem_cons_self)
      · exact .inr (List.mem_cons_of_mem _ h)
  rcases key ids _ h with h | h
  · cases h
  · exact h
theorem aw_mem {s : List Ag} {x : Int} (h : x ∈ awD s) : x ∈ idsK s := by
  obtain ⟨a, ha, rfl⟩ := List.mem_map.1 h
  exact List.mem_map.2 ⟨a, (List.mem_filter.1 ha).1, rfl⟩
theorem ha_mem (s : List Ag) (c : Hd) (x : Int) (h : x ∈ haD s c) : x ∈ idsK s := by
  have arms : ∀ (l : List Hd) (B : Hd → List Int) (id : Int), x ∈ haArms B id l c → x ∈ B c ∨ x = id := by
    intro l
    induction l with
    | nil => intro B id h; exact .inl h
    | cons y r ih =>
      intro B id h
      rcases ih (haStep id B y) id h with h | h
      · unfold haStep at h
        split at h
        · by_cases e : c = y
          · subst e
            rw [updH_same] at h
            rcases List.mem_append.1 h with h | h
            · exact .inl h
            · exact .inr (by simpa using h)
          · rw [updH_other _ _ e] at h; exact .inl h
        · exact .inl h
      · exact .inr h
  have key : ∀ (s : List Ag) (B : Hd → List Int), x ∈ haF B s c → x ∈ B c ∨ x ∈ s.map (·.id) := by
    intro s
    induction s with
    | nil => intro B h; exact .inl h
    | cons a r ih =>
      intro B h
      rcases ih (haArms B a.id a.arms) h with h | h
      · rcases arms _ _ _ h with h | h
        · exact .inl h
        · exact .inr (by rw [h]; exact List.mem_cons_self)
      · exact .inr (List.mem_cons_of_mem _ h)
  rcases key s _ h with h | h
  · cases h
  · exact h
/-- whose numbers may stand for a waker -/
def WkOk (s : List Ag) (x : Int) : Prop := x = -1 ∨ x = 0 ∨ x ∈ idsK s
theorem n0_wk {s : List Ag} {id : Int} {l : Lk} (h : N0D s id = some l) : WkOk s l.waker := by
  have key : ∀ (H : Int → Option Int) (B : Hd → List Int) (t : List Ag) (O : Int → Option Lk), (∀ c i, H c = some i → i ∈ idsK s) → (∀ c, ∀ x ∈ B c, x ∈ idsK s) → (∀ k l, O k = some l → WkOk s l.waker) → ∀ k l, t.foldl (ouStep H B) O k = some l → WkOk s l.waker := by
    intro H B t
    induction t with
    | nil => intro O _ _ h k l; exact h k l
    | cons a r ih =>
      intro O h1 h2 h3 k l hk
      refine ih (ouStep H B O a) h1 h2 (fun k l hk => ?_) k l hk
      unfold ouStep at hk
      cases hl : lkD a (wk1 H B a.id) with
      | none => rw [hl] at hk; exact h3 k l hk
      | some l0 =>
        rw [hl] at hk
        simp only at hk
        by_cases e : k = a.id
        · subst e
          rw [upd_same] at hk
          cases hk
          obtain ⟨x, hx, hw, _⟩ := lkd_wk hl
          unfold wk1 at hw
          split at hw
          · exact .inl (Option.some.inj hw).symm
          · cases hH : H x.chan with
            | some i => rw [hH] at hw; cases hw; exact .inr (.inr (h1 _ _ hH))
            | none =>
              rw [hH] at hw
              simp only [otI] at hw
              exact .inr (.inr (h2 _ _ (List.mem_of_find?_eq_some hw)))
        · rw [upd_other _ _ e] at hk; exact h3 k l hk
  exact key _ _ s _ (fun c i hi => aw_mem (ho_val _ _ _ _ _ hi)) (fun c x hx => ha_mem s c x hx) (fun k l h => by cases h) id l h
theorem lvl_wk {s : List Ag} {k : Nat} {A : Int → List Int} {Y : Int → Option Wy} {N : Int → Option Lk} (h : Lvl (whoD s) (atD s) (N0D s) k A Y N) : (∀ id l, N id = some l → WkOk s l.waker) ∧ (∀ id y, Y id = some y → WkOk s y.2.waker ∧ ∃ j : Nat, y.1 = j ∧ 1 ≤ j ∧ j < k) ∧ 1 ≤ k := by
  induction h with
  | one => exact ⟨fun id l h => n0_wk h, fun id y h => (by cases h), Nat.le_refl _⟩
  | @step k A Y N N' ids h1 hi hp ih =>
    refine ⟨fun id l hl => ?_, fun id y hy => ?_, by omega⟩
    · obtain ⟨e, _, _⟩ := hp.no id (by rw [hl]; simp)
      rw [hl] at e
      cases e
      unfold opL lk0
      cases hk : lkD (whoD s id) (fun h => hoD (whoD s) A ids h.chan) with
      | none => exact .inr (.inl rfl)
      | some l0 =>
        obtain ⟨x, _, hw, _⟩ := lkd_wk hk
        have h3 := (hi.2 _).1 (ho_val _ _ _ _ _ hw)
        exact .inr (.inr ((lvl_mem h1).2 _ (by intro e; simp only [Option.getD_some] at e; rw [e] at h3; cases h3)))
    · unfold wyN at hy
      cases hn : N id with
      | some l =>
        rw [hn] at hy
        cases hy
        exact ⟨ih.1 id l hn, k, rfl, ih.2.2, by omega⟩
      | none =>
        rw [hn] at hy
        obtain ⟨q1, j, q2, q3, q4⟩ := ih.2.1 id y hy
        exact ⟨q1, j, q2, q3, by omega⟩
theorem fdr_wk {s : List Ag} {sought : Int} {Y : Int → Option Wy} (h : FdR s sought Y) : ∀ id y, Y id = some y → WkOk s y.2.waker ∧ ∃ j : Nat, y.1 = j ∧ 1 ≤ j ∧ j ≤ 4097 := fun id y hy => by
  obtain ⟨k, A, Y', N, h1, hk, _, h3⟩ := h
  obtain ⟨a1, a2, a3⟩ := lvl_wk h1
  rcases h3 with ⟨_, rfl⟩ | ⟨_, h3⟩
  · obtain ⟨q1, j, q2, q3, q4⟩ := a2 id y hy
    exact ⟨q1, j, q2, q3, by omega⟩
  · rcases h3 id with h | ⟨l, h4, h5⟩
    · rw [hy] at h
      obtain ⟨q1, j, q2, q3, q4⟩ := a2 id y h.symm
      exact ⟨q1, j, q2, q3, by omega⟩
    · rw [hy] at h5
      cases h5
      exact ⟨a1 id l h4, k, rfl, a3, hk⟩
theorem wk_64 {w : World} {p : Option Addr} {c : Nat} {s : List Ag} (h : AgsR w p c s) {x : Int} (hx : WkOk s x) : I64 x := by
  rcases hx with rfl | rfl | hx
  · exact ⟨by omega, by omega⟩
  · exact ⟨by omega, by omega⟩
  · obtain ⟨a, ha, rfl⟩ := List.mem_map.1 hx
    obtain ⟨i, hi, rfl⟩ := List.mem_iff_getElem.1 ha
    obtain ⟨_, _, _, _, _, _, _, h1, _⟩ := h.at_ i hi
    exact h1.id
end Go.Proofs.Ytjabdhmkibahlaa
