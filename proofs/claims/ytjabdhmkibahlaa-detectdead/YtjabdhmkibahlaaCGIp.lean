import Derived.Test.YtjabdhmkibahlaaCGHp
import Derived.Test.YtjabdhmkibahlaaCGR
import Derived.Deep.RegionLaw
namespace Go.Proofs.Ytjabdhmkibahlaa
set_option linter.unusedVariables false
set_option linter.unusedSimpArgs false

/-! ### what a link leaves, in plain words -/
theorem link_parts {s : List Ag} (hok : stOk s = true) {l : Lk} (h : l ∈ linksI s) : ∃ i, ∃ hi : i < s.length, l.woken = s[i].id ∧ l.waker ≠ s[i].id ∧ onI s[i].arms l.chan = true ∧ s[i].awake = false ∧ l.waker ∈ keyL s ∧ (standI (whoI s l.waker) l.chan).wakes (waitI s[i].arms l.chan) = true := by
  obtain ⟨a, ha, c, hc, k, hk, rfl⟩ := (mem_links hok l).1 h
  obtain ⟨i, hi, rfl⟩ := List.mem_iff_getElem.1 ha
  obtain ⟨h1, h2⟩ := List.mem_filter.1 hk
  rw [Bool.and_eq_true] at h2
  have hon := (List.mem_filter.1 hc).2
  refine ⟨i, hi, rfl, by simpa using h2.1, hon, ?_, h1, h2.2⟩
  cases hx : s[i].awake with
  | false => rfl
  | true => rw [awake_none (st_all hok _ ha).1 hx c] at hon; cases hon
theorem link_fits {s : List Ag} (hok : stOk s = true) {l : Lk} (h : l ∈ linksI s) : fitsF (whoI s) l = true := by
  obtain ⟨i, hi, h1, h2, h3, h4, h5, h6⟩ := link_parts hok h
  unfold fitsF
  have := (st_all hok _ (List.getElem_mem hi)).2
  rw [if_neg (fun e => by rcases e with e | e <;> omega), h1, who_at hok i hi]
  have e : standI s[i] l.chan = waitI s[i].arms l.chan := by unfold standI; rw [h4, if_neg (by simp)]
  rw [e]
  exact h6
theorem tkA_id (l : Lk) (a : Ag) : (tkA l a).id = a.id := by unfold tkA; split <;> rfl
theorem tkA_held (l : Lk) (a : Ag) : (tkA l a).held = a.held := by unfold tkA; split <;> rfl
theorem tkA_ok {l : Lk} {a : Ag} (h : agOk a = true) : agOk (tkA l a) = true := by
  unfold tkA
  split
  · unfold agOk at h ⊢
    rw [Bool.and_eq_true, Bool.and_eq_true] at h
    simp [h.1.2]
  · exact h
theorem took_ok {s : List Ag} (l : Lk) (h : stOk s = true) : stOk (s.map (tkA l)) = true := by
  have key : ∀ (s : List Ag) (k : Int), agsF k s = true → agsF k (s.map (tkA l)) = true := by
    intro s
    induction s with
    | nil => intro k h; exact h
    | cons a r ih =>
      intro k h
      rw [agsF, Bool.and_eq_true, Bool.and_eq_true] at h
      rw [List.map_cons, agsF, tkA_id, Bool.and_eq_true, Bool.and_eq_true]
      exact ⟨⟨h.1.1, tkA_ok h.1.2⟩, ih _ h.2⟩
  unfold stOk at h ⊢
  rw [Bool.and_eq_true] at h ⊢
  exact ⟨by simpa using h.1, key s _ h.2⟩
theorem tkA_arms (l : Lk) (a : Ag) : (tkA l a).arms.length ≤ a.arms.length := by unfold tkA; split <;> simp
theorem took_few {s : List Ag} {l : Lk} (h : Few s) : Few (s.map (tkA l)) := fun b hb => by
  obtain ⟨a, ha, rfl⟩ := List.mem_map.1 hb
  have := h a ha
  have := tkA_arms l a
  rw [tkA_held]
  omega
theorem took_tot {s : List Ag} (l : Lk) : totA (s.map (tkA l)) ≤ totA s := by
  induction s with
  | nil => simp
  | cons a r ih =>
    have := tkA_arms l a
    rw [List.map_cons, totA, totA, tkA_held]
    omega
theorem who_took {s : List Ag} (l : Lk) (h : stOk s = true) {i : Nat} (hi : i < s.length) : whoI (s.map (tkA l)) s[i].id = tkA l s[i] := by
  have := who_at (took_ok l h) i (by simpa using hi)
  rw [List.getElem_map, tkA_id] at this
  exact this
/-- WHAT FITTED FITS STILL -/
theorem keeps {s : List Ag} (hok : stOk s = true) {x l : Lk} (hl : l ∈ linksI s) {i : Nat} (hi : i < s.length) (hw : l.woken = s[i].id) (hn : (tkA x s[i]).awake = false) : fitsF (whoI (s.map (tkA x))) l = true := by
  obtain ⟨j, hj, h1, h2, h3, h4, h5, h6⟩ := link_parts hok hl
  have hij : j = i := st_ids hok hj hi (by rw [← h1, hw])
  subst hij
  have hid := (st_all hok _ (List.getElem_mem hj)).2
  have hun : tkA x s[j] = s[j] := by
    unfold tkA at hn ⊢
    split
    · rename_i e; rw [if_pos e] at hn; cases hn
    · rfl
  unfold fitsF
  rw [if_neg (fun e => by rcases e with e | e <;> omega), h1, who_took x hok hj, hun]
  have e : standI s[j] l.chan = waitI s[j].arms l.chan := by unfold standI; rw [h4, if_neg (by simp)]
  rw [e]
  rcases List.mem_cons.1 h5 with hk | hk
  · rw [hk, who_world (took_ok x hok)]
    rw [hk, who_world hok] at h6
    exact h6
  · obtain ⟨b, hb, hbk⟩ := List.mem_map.1 hk
    obtain ⟨k, hkl, rfl⟩ := List.mem_iff_getElem.1 hb
    rw [← hbk, who_took x hok hkl]
    rw [← hbk, who_at hok k hkl] at h6
    unfold tkA
    split
    · -- the waker is awake now: what it stood at it holds
      apply of_wakes
      left
      refine ⟨?_, on_wait h3⟩
      unfold standI
      rw [if_pos rfl]
      show s[k].held.contains l.chan = true
      have hin : l.chan ∈ s[k].held := by
        rcases wakes_of h6 with ⟨q, _⟩ | ⟨q, _⟩ | ⟨q, _⟩
        · unfold standI at q
          cases hx : s[k].awake with
          | true => rw [hx, if_pos rfl] at q; simpa using q
          | false => rw [hx, if_neg (by simp), waitI_a] at q; cases q
        · unfold standI at q
          cases hx : s[k].awake with
          | true => rw [hx, if_pos rfl] at q; cases q
          | false =>
            rw [hx, if_neg (by simp)] at q
            obtain ⟨y, y1, y2, y3, _⟩ := (waitI_s _ _).1 q
            exact on_held (st_all hok _ (List.getElem_mem hkl)).1 (on_some.2 ⟨y, y1, y2, y3⟩)
        · unfold standI at q
          cases hx : s[k].awake with
          | true => rw [hx, if_pos rfl] at q; cases q
          | false =>
            rw [hx, if_neg (by simp)] at q
            obtain ⟨y, y1, y2, y3, _⟩ := (waitI_r _ _).1 q
            exact on_held (st_all hok _ (List.getElem_mem hkl)).1 (on_some.2 ⟨y, y1, y2, y3⟩)
      simpa using hin
    · exact h6
/-- one agent behind a link -/
theorem took_one (x : Lk) (a : Ag) : ((tkA x a).awake = (a.awake || (a.id == x.woken || a.id == x.waker))) ∧ ((a.id == x.woken || a.id == x.waker) = false → tkA x a = a) := by
  unfold tkA
  by_cases h1 : a.id = x.waker
  · simp [h1]
  · by_cases h2 : a.id = x.woken
    · simp [h2]
    · simp [h1, h2]
end Go.Proofs.Ytjabdhmkibahlaa
namespace Go.Proofs.Ytjabdhmkibahlaa
open Go.RowKit Go.MapKept Go.ChangeMaps Go.WideShapes
set_option linter.unusedVariables false
set_option linter.unusedSimpArgs false

/-! ### more on maps by numbers -/
theorem MpI.look2 {W : World} {mb n : Nat} {z : Value} {M : Int → Value} {hs : Int → Bool} (h : MpI W mb n z M hs) {t e : TypeId} (ht : Try.prog.underlying t = some (.map 3 e)) (hz : ∀ w, (zeroValue e).run Try.prog w = .ok z w) {c : Int} (hc : I64 c) : (Instr.lookup t (.map (some mb)) (.int .i64 c) true).run Try.prog W = .ok (.tuple #[M c, .bool (hs c)]) W := by
  obtain ⟨D, h1, h2⟩ := h.ex
  obtain ⟨v, ps, hr, hv⟩ := h1.look_ok (Maps.int_keyed Try.underlying3) ht (hz _) (zd := .held z) (zp := []) rfl (keyI hc)
  rw [(h2 c hc).1] at hv
  rw [(h2 c hc).2] at hr
  have hv2 : v = M c := by
    have h3 := congrArg Prod.fst (Option.some.inj (show some ((DataW.held v : DataW Value), ([] : List MemPlace)) = some (DataW.held (M c), ps) from hv))
    exact DataW.held.inj h3
  rw [hr, hv2]
theorem MpI.del {W : World} {mb n : Nat} {z : Value} {M : Int → Value} {hs : Int → Bool} (h : MpI W mb n z M hs) {t e : TypeId} (ht : Try.prog.underlying t = some (.map 3 e)) {c : Int} (hc : I64 c) (ty : TypeId) :
    ∃ w', (Builtin.delete_ #[t, 3] ty #[.map (some mb), .int .i64 c]).run Try.prog W = .ok (.tuple #[]) w' ∧ MpI w' mb n z (upd M c z) (upd hs c false) ∧ W.grownBy w' (some mb) := by
  obtain ⟨D, h1, h2⟩ := h.ex
  obtain ⟨w', hr, h3, h4⟩ := h1.drop (Maps.int_keyed Try.underlying3) ht (keyI hc) ty
  refine ⟨w', hr, ⟨_, h3, fun d hd => ?_⟩, h4.grown⟩
  by_cases e : d = c
  · subst e
    rw [upd_same, upd_same, Maps.atKey_del_same, Maps.has_del_same]
    exact ⟨rfl, rfl⟩
  · rw [upd_other _ _ e, upd_other _ _ e, Maps.atKey_del_other (kI_ne e), Maps.has_del_other (kI_ne e)]
    exact h2 d hd
theorem MpI.len {W : World} {mb n : Nat} {z : Value} {M : Int → Value} {hs : Int → Bool} (h : MpI W mb n z M hs) {t e : TypeId} (ht : Try.prog.underlying t = some (.map 3 e)) (hz : ∀ w, (zeroValue e).run Try.prog w = .ok z w) (ty : TypeId) :
    ∃ k : Nat, (Builtin.len_ #[t] ty #[.map (some mb)]).run Try.prog W = .ok (.int .i64 k) W ∧ k ≤ n ∧ (0 < k → ∃ c, I64 c ∧ hs c = true) ∧ ((∃ c, I64 c ∧ hs c = true) → 0 < k) := by
  obtain ⟨D, h1, h2⟩ := h.ex
  refine ⟨Maps.size D, h1.len ht ty, h1.size_le, fun hk => ?_, fun ⟨c, hc, hh⟩ => ?_⟩
  · obtain ⟨es, clock, hb, F, _, hD⟩ := h1
    have hs0 : 0 < es.size := by
      have e1 : Maps.size D = es.size := by rw [hD]; simp [Maps.size, length_sorted]
      omega
    have hm : es[0] ∈ es.toList := by simp
    obtain ⟨y, hy⟩ := F.reads _ hm
    have hkey := WideElems.rd_key hy
    obtain ⟨x, ex, hl, hwf⟩ := Maps.keyOf_int_inv Try.underlying3 hkey
    have hx : I64 x := by
      have h5 : (decide (IntKind.i64.min ≤ x) && decide (x ≤ IntKind.i64.max)) = true := hwf
      rw [Bool.and_eq_true, decide_eq_true_eq, decide_eq_true_eq] at h5
      exact ⟨h5.1, h5.2⟩
    refine ⟨x, hx, ?_⟩
    rcases Maps.fit_look true (Maps.int_keyed Try.underlying3) ht (hz W) hb F (keyI hx) with ⟨_, hno, _⟩ | ⟨e0, y0, _, _, _, _, hat, _⟩
    · exact absurd ex (hno _ hm)
    · rw [← (h2 x hx).2, hD]
      exact Maps.has_true_of_atKey hat
  · rcases Nat.eq_zero_or_pos (Maps.size D) with h0 | h0
    · obtain ⟨es, clock, hb, F, _, hD⟩ := h1
      have e1 : Maps.size D = es.size := by rw [hD]; simp [Maps.size, length_sorted]
      have hs0 : es.size = 0 := by omega
      rcases Maps.fit_look true (Maps.int_keyed Try.underlying3) ht (hz W) hb F (keyI hc) with ⟨_, hno, hat⟩ | ⟨e0, y0, he0, _⟩
      · have := Maps.has_false_of_atKey hat
        rw [← hD] at this
        rw [← (h2 c hc).2, this] at hh
        cases hh
      · have : es.toList.length = 0 := by simpa using hs0
        rw [List.eq_nil_of_length_eq_zero this] at he0
        cases he0
    · exact h0
end Go.Proofs.Ytjabdhmkibahlaa
namespace Go.Proofs.Ytjabdhmkibahlaa
open Go.RowKit Go.MapKept Go.ChangeMaps Go.WideShapes
set_option linter.unusedVariables false
set_option linter.unusedSimpArgs false

/-! ### who there is, for detect -/
def whoD (s : List Ag) : Int → Ag := s.foldl (fun f a => upd f a.id a) (fun _ => zA)
def hasD (s : List Ag) : Int → Bool := s.foldl (fun f a => upd f a.id true) (fun _ => false)
theorem whoD_snoc (s : List Ag) (a : Ag) : whoD (s ++ [a]) = upd (whoD s) a.id a := by simp [whoD, List.foldl_append]
theorem hasD_snoc (s : List Ag) (a : Ag) : hasD (s ++ [a]) = upd (hasD s) a.id true := by simp [hasD, List.foldl_append]
theorem whoV_upd {w : World} {f : Int → Ag} {M : Int → Value} (h : WhoV w f M) (k : Int) (a : Ag) {ap hp : Option Addr} {ac hc : Nat} (ha : AgR w a ap ac hp hc) : WhoV w (upd f k a) (upd M k (agV a ap ac hp hc)) := fun d => by
  by_cases e : d = k
  · subst e
    rw [upd_same, upd_same]
    exact ⟨ap, ac, hp, hc, rfl, ha⟩
  · rw [upd_other _ _ e, upd_other _ _ e]
    exact h d
def IdDPost (w : World) (s : List Ag) (e : Ending) (w' : World) : Prop := ∃ mb n M, e = .returned (.map (some mb)) ∧ MpI w' mb n zV M (hasD s) ∧ WhoV w (whoD s) M ∧ n ≤ s.length ∧ w.heap.size ≤ mb ∧ Below w.heap.size w w'
set_option maxRecDepth 100000 in
set_option maxHeartbeats 4000000 in
theorem byIdD_any (w : World) (p : Option Addr) (c : Nat) (s : List Ag) (h : AgsR w p c s) (hs4 : s.length ≤ 4096) : Calls Try.prog 63 #[.slice p s.length c] w (IdDPost w s) := by
  have hlc := h.len
  have hcm := h.max
  unfold maxLen at hcm
  have HS : Bx (AgsR w p c s) := ⟨h⟩
  have HS4 : Bx (s.length ≤ 4096) := ⟨hs4⟩
  have hmm := @run_makeMap Try.prog
  obtain ⟨W, hW⟩ : ∃ W, w.alloc (.map #[] 0) = W := ⟨_, rfl⟩
  have HM : Bx (MpI W w.heap.size 0 zV (fun _ => zV) (hasD []) ∧ WhoV w (whoD []) (fun _ => zV) ∧ Below w.heap.size w W) := ⟨by rw [← hW]; exact mp_new w zV, fun k => ⟨none, 0, none, 0, rfl, zA_r w⟩, by rw [← hW]; exact below1 _ _⟩
  have HWE : Bx (_ = W) := ⟨hW⟩
  clear h hW
  go_enter Try.func63, Try.ntmps63
  go_wp2
  rw [HWE.out]
  clear hmm
  go_loopg [9] (s.length + 1) (fun k v wr => ∃ i n M, k = s.length + 1 - i ∧ i ≤ s.length ∧ v = .int .i64 (i : Nat) ∧ Bx (n ≤ i ∧ MpI wr w.heap.size n zV M (hasD (s.take i)) ∧ WhoV w (whoD (s.take i)) M ∧ Below w.heap.size w wr))
  case atStart => exact ⟨0, 0, _, by simp, by omega, rfl, ⟨Nat.le_refl _, HM.out⟩⟩
  case round =>
    obtain ⟨i, n, M, hk, hil, rfl, HR⟩ := hrel
    clear HM HWE
    by_cases hlt : i < s.length
    · obtain ⟨b, o, ap, ac, hp, hc, rfl, hA, hcl⟩ := HS.out.at_ i hlt
      have hbr := HR.out.2.2.2
      obtain ⟨c0, c1, c2, c3⟩ := hcl wr hbr
      have HT : Bx (s.take (i + 1) = s.take i ++ [s[i]]) := ⟨List.take_succ_eq_append_getElem hlt⟩
      have HAg : Bx (AgR w s[i] ap ac hp hc) := ⟨hA⟩
      clear hcl hA HS
      generalize s[i] = a at *
      generalize s.take i = pre at *
      obtain ⟨id, aw, arms, held⟩ := a
      simp only at c0 c1 c2 c3
      obtain ⟨X, hX⟩ : ∃ X, wr.alloc (.cells #[.int .i64 id, .bool aw, .slice ap arms.length ac, .slice hp held.length hc] 53) = X := ⟨_, rfl⟩
      have hbX : Below wr.heap.size wr X := by rw [← hX]; exact below1 _ _
      have hkX : X.heap[wr.heap.size]? = some (.cells #[.int .i64 id, .bool aw, .slice ap arms.length ac, .slice hp held.length hc] 53 (0, 0)) := by rw [← hX]; exact World.alloc_heap_new _ _
      have hbw : Below w.heap.size w X := hbr.trans (hbX.mono hbr.size)
      have hn := HR.out.1
      obtain ⟨W2, hput, hm2, hg2⟩ := (HR.out.2.1.below hbX).put Try.underlying61 (c := id) HAg.out.id (by unfold maxLen; have := HS4.out; omega) (agV ⟨id, aw, arms, held⟩ ap ac hp hc)
      have d0 : X.cell? ⟨wr.heap.size, 0, none⟩ = some (.int .i64 id) := cell_of hkX rfl
      have d1 : X.cell? ⟨wr.heap.size, 1, none⟩ = some (.bool aw) := cell_of hkX rfl
      have d2 : X.cell? ⟨wr.heap.size, 2, none⟩ = some (.slice ap arms.length ac) := cell_of hkX rfl
      have d3 : X.cell? ⟨wr.heap.size, 3, none⟩ = some (.slice hp held.length hc) := cell_of hkX rfl
      have HF : Bx (n + 1 ≤ i + 1 ∧ MpI W2 w.heap.size (n + 1) zV (upd M id (agV ⟨id, aw, arms, held⟩ ap ac hp hc)) (hasD (s.take (i + 1))) ∧ WhoV w (whoD (s.take (i + 1))) (upd M id (agV ⟨id, aw, arms, held⟩ ap ac hp hc)) ∧ Below w.heap.size w W2) := by
        refine ⟨by omega, ?_, ?_, hbw.grown hg2 hbw.size (fun r e => by cases e; omega)⟩
        · rw [HT.out, hasD_snoc]; exact hm2
        · rw [HT.out, whoD_snoc]; exact whoV_upd HR.out.2.2.1 id ⟨id, aw, arms, held⟩ HAg.out
      simp only [agV] at hput
      rw [← hX] at hput d0 d1 d2 d3
      clear hX hbX hkX hbw HR hm2 hg2 hbr HAg HT
      go_wp2
      go_roundg (s.length + 1 - (i + 1))
      case measure => omega
      case rel => exact ⟨i + 1, n + 1, _, rfl, by omega, by simp, HF⟩
    · have hie : i = s.length := by omega
      subst hie
      rw [List.take_length] at HR
      go_wp2
      go_ret
      exact ⟨_, n, M, rfl, HR.out.2.1, HR.out.2.2.1, HR.out.1, Nat.le_refl _, HR.out.2.2.2⟩
/-! ### those that are awake -/
def awD (s : List Ag) : List Int := (s.filter (·.awake)).map (·.id)
theorem awD_snoc (s : List Ag) (a : Ag) : awD (s ++ [a]) = if a.awake then awD s ++ [a.id] else awD s := by
  unfold awD
  rw [List.filter_append, List.map_append]
  cases h : a.awake <;> simp [h]
theorem awD_len (s : List Ag) : (awD s).length ≤ s.length := by unfold awD; rw [List.length_map]; exact List.length_filter_le _ _
theorem rowC_snoc (l : List Int) (x : Int) : rowC (l ++ [x]) = rowC l ++ [.int .i64 x] := by simp [rowC]
set_option maxRecDepth 100000 in
set_option maxHeartbeats 4000000 in
theorem awake_any (w : World) (p : Option Addr) (c : Nat) (s : List Ag) (h : AgsR w p c s) (hs4 : s.length ≤ 4096) : Calls Try.prog 75 #[.slice p s.length c] w fun e w' => ∃ q d, e = .returned (.slice q (awD s).length d) ∧ IntsR w' q d (awD s) ∧ Below w.heap.size w w' := by
  obtain ⟨i0, hi, iz0, iz1, iz2⟩ := info_parts infoI
  have hlc := h.len
  have hcm := h.max
  unfold maxLen at hcm
  have HS : Bx (AgsR w p c s) := ⟨h⟩
  clear h
  go_enter Try.func75, Try.ntmps75
  go_wp2
  go_loopg [3, 8] (s.length + 1) (fun k v3 v8 wr => ∃ i, k = s.length + 1 - i ∧ i ≤ s.length ∧ v8 = .int .i64 (i : Nat) ∧ Bx (wr.ownsRow w.heap.size 3 1 v3 (awD (s.take i)).length (rowC (awD (s.take i))) ∧ Below w.heap.size w wr))
  case atStart => exact ⟨0, by simp, by omega, rfl, ⟨⟨rfl, .inl ⟨rfl, rfl⟩⟩, Below.refl _ _⟩⟩
  case round =>
    obtain ⟨i, hk, hil, rfl, HR⟩ := hrel
    by_cases hlt : i < s.length
    · obtain ⟨b, o, ap, ac, hp, hc, rfl, hA, hcl⟩ := HS.out.at_ i hlt
      have hbr := HR.out.2
      obtain ⟨c0, c1, c2, c3⟩ := hcl wr hbr
      have HT : Bx (awD (s.take (i + 1)) = if s[i].awake then awD (s.take i) ++ [s[i].id] else awD (s.take i)) := ⟨by rw [List.take_succ_eq_append_getElem hlt, awD_snoc]⟩
      have hln : (awD (s.take i)).length ≤ 4096 := by
        have := awD_len (s.take i)
        rw [List.length_take] at this
        omega
      clear hcl hA HS
      generalize s[i] = a at *
      generalize awD (s.take i) = pre at *
      obtain ⟨id, aw, arms, held⟩ := a
      simp only at c0 c1 c2 c3 HT
      obtain ⟨X, hX⟩ : ∃ X, wr.alloc (.cells #[.int .i64 id, .bool aw, .slice ap arms.length ac, .slice hp held.length hc] 53) = X := ⟨_, rfl⟩
      have hbX : Below wr.heap.size wr X := by rw [← hX]; exact below1 _ _
      have hkX : X.heap[wr.heap.size]? = some (.cells #[.int .i64 id, .bool aw, .slice ap arms.length ac, .slice hp held.length hc] 53 (0, 0)) := by rw [← hX]; exact World.alloc_heap_new _ _
      have d0 : X.cell? ⟨wr.heap.size, 0, none⟩ = some (.int .i64 id) := cell_of hkX rfl
      have d1 : X.cell? ⟨wr.heap.size, 1, none⟩ = some (.bool aw) := cell_of hkX rfl
      have hbw : Below w.heap.size w X := hbr.trans (hbX.mono hbr.size)
      have HO : Bx (X.ownsRow w.heap.size 3 1 u3 pre.length (rowC pre) ∧ Below w.heap.size w X) := ⟨own_new HR.out.1 hbX, hbw⟩
      have HXE : Bx (_ = X) := ⟨hX⟩
      have HXS : Bx (X.heap.size = wr.heap.size + 1) := ⟨by rw [← hX]; simp⟩
      rw [← hX] at d0 d1
      cases aw with
      | true =>
        replace HT : Bx (awD (s.take (i + 1)) = pre ++ [id]) := ⟨by rw [HT.out]; rfl⟩
        have hsz : w.heap.size ≤ X.heap.size := hbw.size
        clear hX hbX hkX hbw HR hbr
        go_wp2_with (first | (at_builtin; rw [HXE.out]; refine wpList_app _ rfl (.tmp 14) (.tmp 17) 45 rfl w.heap.size 3 i0 (.int .i64 0) 1 8 Try.underlying45 hi iz0 iz1 iz2 rfl (by decide) u3 pre.length (rowC pre) rfl (own_new HO.out.1 (below1 _ _)) ⟨wr.heap.size + 1, 0, none⟩ 1 1 [.int .i64 id] rfl rfl (block_cells _ _ _ 3 (by rw [← HXS.out]; exact World.alloc_heap_new _ _)) (by simp [Value.oneCell']) (by decide) (by unfold maxLen; omega) (by omega) (by simp; omega) (wr.heap.size + 2) (by have := HXS.out; simp; omega) ?_; intro gg gcap w9 hown9 hgrow9 hgi9 hgl9; have HN : Bx (w9.ownsRow w.heap.size 3 1 (.slice (some ⟨gg, 0, none⟩) (pre.length + 1) gcap) (pre.length + 1) (rowC (pre ++ [id])) ∧ Below w.heap.size w w9) := ⟨(by rw [rowC_snoc]; exact hown9), ((HO.out.2.trans ((below1 X _).mono HO.out.2.size)).grown hgrow9 (by simp; omega) (fun r e => own_base HO.out.1 r e))⟩; clear hown9 hgrow9 hgi9))
        go_roundg (s.length + 1 - (i + 1))
        case measure => omega
        case rel => exact ⟨i + 1, rfl, by omega, by simp, ⟨by rw [HT.out, List.length_append]; exact HN.out.1, HN.out.2⟩⟩
      | false =>
        replace HT : Bx (awD (s.take (i + 1)) = pre) := ⟨by rw [HT.out]; rfl⟩
        clear hX hbX hkX hbw HR hbr
        go_wp2
        rw [HXE.out]
        go_roundg (s.length + 1 - (i + 1))
        case measure => omega
        case rel => exact ⟨i + 1, rfl, by omega, by simp, ⟨by rw [HT.out]; exact HO.out.1, HO.out.2⟩⟩
    · have hie : i = s.length := by omega
      subst hie
      rw [List.take_length] at HR
      have H64 : Bx (∀ x ∈ awD s, I64 x) := ⟨fun x hx => by
        obtain ⟨a, ha, rfl⟩ := List.mem_map.1 hx
        obtain ⟨j, hj, rfl⟩ := List.mem_iff_getElem.1 (List.mem_filter.1 ha).1
        obtain ⟨_, _, _, _, _, _, _, h1, _⟩ := HS.out.at_ j hj
        exact h1.id⟩
      have HV : Bx (∃ q d, u3 = .slice q (awD s).length d ∧ IntsR wr q d (awD s)) := ⟨by
        rcases HR.out.1.2 with ⟨x1, x2⟩ | ⟨g, cap, cur, x1, _⟩
        · exact ⟨none, 0, by rw [x1, x2], by omega, by simp [maxLen], fun i hi => by omega⟩
        · have h1 := HR.out.1
          rw [x1] at h1
          exact ⟨_, _, x1, ints_own h1 H64.out⟩⟩
      obtain ⟨q, d, hu, hq⟩ := HV.out
      subst hu
      have HQ : Bx _ := ⟨hq⟩
      clear hq HV
      go_wp2
      go_ret
      exact ⟨q, d, rfl, HQ.out, HR.out.2⟩
end Go.Proofs.Ytjabdhmkibahlaa
namespace Go.Proofs.Ytjabdhmkibahlaa
open Go.RowKit Go.MapKept Go.ChangeMaps Go.WideShapes
set_option linter.unusedVariables false
set_option linter.unusedSimpArgs false

theorem step_app {P : Program} {ops : Array Oper} {o : Oper} {a : Act} {w : World} {K : Act → World → Prop} {Q : Exit → Act → World → Prop} {E : Prop}
    (hg : o.guard = none) (s x : Operand) (t : TypeId) (hop : o.op = Op.call { callee := Callee.builtin Builtin.append, args := #[s, x], argTypes := #[t, t] })
    (base : Nat) (e : TypeId) (i : TypeInfo) (z : Value) (size bytes : Nat) (h1 : P.underlying t = some (.slice e)) (h2 : P.info? e = some i) (h3 : i.zero = some z) (h4 : i.size = size) (h5 : i.bytes = bytes) (h6 : z.cells.size = size) (h7 : 0 < size)
    (v : Value) (k : Nat) (xs : List Value) (hs : a.eval s = v) (hown : w.ownsRow base e size v k xs) (p : Option Addr) (m c : Nat) (news : List Value) (hx : a.eval x = .slice p m c) (hn : news.length = m * size)
    (hc : 0 < m → ∃ ad, p = some ad ∧ ∀ j u, news[j]? = some u → w.cell? (ad.add j) = some u) (h1c : ∀ u ∈ news, u.oneCell' = true) (b1 : k + m ≤ maxLen) (b2 : (k + m) * bytes ≤ 140737488355328) (b3 : base ≤ w.heap.size)
    (hK : ∀ v' w', w'.ownsRow base e size v' (k + m) (xs ++ news) → w.grownBy w' v.ownBlock → (v'.ownBlock = v.ownBlock ∨ v'.ownBlock = some w.heap.size) → K (a.put o.dst v') w') :
    if Region.wanted o (yielded ops a.tmps) = true then Oper.wp P o a w K Q else E := by
  have hw : Region.wanted o (yielded ops a.tmps) = true := by simp [Region.wanted, hg]
  rw [if_pos hw]
  by_cases b0 : 0 < m
  · obtain ⟨ad, rfl, hc'⟩ := hc b0
    obtain ⟨g, cap, w', hrun, r1, r2, r3, r4⟩ := run_append_lies (P := P) w t o.type base e i z size bytes h1 h2 h3 h4 h5 h6 h7 v k xs hown ad m c news hn hc' h1c b0 b1 b2 b3 w.heap.size rfl
    unfold Oper.wp
    simp [execOp, hop, resolve, invoke, builtin, hs, hx, hrun, Result.andThen]
    exact hK _ _ r1 r2 (by rcases r3 with r3 | rfl
                           · exact .inl r3.symm
                           · exact .inr rfl)
  · obtain rfl : m = 0 := by omega
    obtain rfl : news = [] := List.eq_nil_of_length_eq_zero (by omega)
    have hrun := run_append_zero (P := P) (w := w) base t o.type e i size h1 h2 v k xs hown p c
    unfold Oper.wp
    simp [execOp, hop, resolve, invoke, builtin, hs, hx, hrun, Result.andThen]
    exact hK v w (by simpa using hown) ⟨rfl, rfl, rfl, Nat.le_refl _, fun _ _ _ => rfl⟩ (.inl rfl)
/-! ### who waits where -/
def atArms (A : Int → List Int) (id : Int) (l : List Hd) : Int → List Int := l.foldl (fun A h => upd A h.chan (A h.chan ++ [id])) A
def atF (A : Int → List Int) (s : List Ag) : Int → List Int := s.foldl (fun A a => atArms A a.id a.arms) A
def atD (s : List Ag) : Int → List Int := atF (fun _ => []) s
theorem atArms_snoc (A : Int → List Int) (id : Int) (l : List Hd) (h : Hd) : atArms A id (l ++ [h]) = upd (atArms A id l) h.chan (atArms A id l h.chan ++ [id]) := by simp [atArms, List.foldl_append]
theorem atF_snoc (A : Int → List Int) (s : List Ag) (a : Ag) : atF A (s ++ [a]) = atArms (atF A s) a.id a.arms := by simp [atF, List.foldl_append]
structure AtW (B : Nat) (W : World) (mb n : Nat) (V : Int → Value) (A : Int → List Int) (own : Nat → Option Int) : Prop where
  map : MpI W mb n nV V (fun c => !(A c).isEmpty)
  row : ∀ c, W.ownsRow B 3 1 (V c) (A c).length (rowC (A c))
  lab : ∀ c g, (V c).ownBlock = some g → own g = some c
theorem own_blk_lt {W : World} {B : Nat} {e : TypeId} {s : Nat} {v : Value} {n : Nat} {cs : List Value} (h : W.ownsRow B e s v n cs) {g : Nat} (hg : v.ownBlock = some g) : ∃ us, W.heap[g]? = some (.cells us e (0, 0)) := by
  rcases h.2 with ⟨x1, _⟩ | ⟨g', cap, cur, x1, _, x3, _⟩
  · rw [x1] at hg; cases hg
  · rw [x1] at hg; cases hg; exact ⟨_, x3⟩
theorem AtW.new (W : World) (B : Nat) : AtW B (W.alloc (.map #[] 0)) W.heap.size 0 (fun _ => nV) (fun _ => []) (fun _ => none) :=
  ⟨mp_new W nV, fun c => ⟨rfl, .inl ⟨rfl, rfl⟩⟩, fun c g h => by cases h⟩
theorem AtW.below {B : Nat} {W X : World} {mb n : Nat} {V : Int → Value} {A : Int → List Int} {own : Nat → Option Int} (h : AtW B W mb n V A own) (hb : Below W.heap.size W X) : AtW B X mb n V A own :=
  ⟨h.map.below hb, fun c => own_new (h.row c) hb, h.lab⟩
theorem AtW.grown_map {B : Nat} {W W2 : World} {mb n : Nat} {V : Int → Value} {A : Int → List Int} {own : Nat → Option Int} (h : AtW B W mb n V A own) (c : Int) (hg : W.grownBy W2 (V c).ownBlock) : MpI W2 mb n nV V (fun c => !(A c).isEmpty) := by
  refine h.map.same (hg.block mb h.map.lt (fun e => ?_))
  obtain ⟨D, ⟨es, clock, h0, _⟩, _⟩ := h.map.ex
  obtain ⟨us, hu⟩ := own_blk_lt (h.row c) e.symm
  rw [hu] at h0
  cases h0
/-- an entry grows by one -/
theorem AtW.add {B : Nat} {W W2 W3 : World} {mb n : Nat} {V : Int → Value} {A : Int → List Int} {own : Nat → Option Int} (h : AtW B W mb n V A own) (c id : Int) {v' : Value}
    (ho : W2.ownsRow B 3 1 v' ((A c).length + 1) (rowC (A c) ++ [.int .i64 id])) (hg : W.grownBy W2 (V c).ownBlock) (hv : v'.ownBlock = (V c).ownBlock ∨ v'.ownBlock = some W.heap.size)
    (hm : MpI W3 mb (n + 1) nV (upd V c v') (upd (fun c => !(A c).isEmpty) c true)) (hg3 : W2.grownBy W3 (some mb)) :
    ∃ own', AtW B W3 mb (n + 1) (upd V c v') (upd A c (A c ++ [id])) own' := by
  have hmap : ∃ es clock, W2.heap[mb]? = some (.map es clock) := by
    obtain ⟨D, ⟨es, clock, h0, _⟩, _⟩ := h.map.ex
    have hl := (Array.getElem?_eq_some_iff.1 h0).1
    refine ⟨es, clock, (hg.block mb hl (fun e => ?_)).trans h0⟩
    obtain ⟨us, hu⟩ := own_blk_lt (h.row c) e.symm
    rw [hu] at h0
    cases h0
  obtain ⟨es, clock, hmap⟩ := hmap
  have keep3 : ∀ {v : Value} {k : Nat} {cs : List Value}, W2.ownsRow B 3 1 v k cs → W3.ownsRow B 3 1 v k cs := fun {v k cs} hr => own_same hr (fun g o hgo hgb => by
    refine (hg3.block g (Array.getElem?_eq_some_iff.1 hgb).1 (fun e => ?_)).trans hgb
    cases e
    obtain ⟨us, hu⟩ := own_blk_lt hr hgo
    rw [hmap] at hu
    cases hu)
  refine ⟨fun g => if v'.ownBlock = some g then some c else own g, ⟨hm.ext (fun d => rfl) (fun d => ?_), fun d => ?_, fun d g hd => ?_⟩⟩
  · by_cases e : d = c
    · subst e; rw [upd_same, upd_same]; simp
    · rw [upd_other _ _ e, upd_other _ _ e]
  · by_cases e : d = c
    · subst e
      rw [upd_same, upd_same, List.length_append, rowC_snoc]
      exact keep3 ho
    · rw [upd_other _ _ e, upd_other _ _ e]
      refine keep3 (own_same (h.row d) (fun g o hgo hgb => (hg.block g (Array.getElem?_eq_some_iff.1 hgb).1 (fun e' => ?_)).trans hgb))
      have h1 := h.lab d g hgo
      have h2 := h.lab c g e'.symm
      rw [h1] at h2
      cases h2
      exact e rfl
  · show (if v'.ownBlock = some g then some c else own g) = some d
    by_cases e : d = c
    · subst e
      rw [upd_same] at hd
      rw [if_pos hd]
    · rw [upd_other _ _ e] at hd
      rw [if_neg (fun e' => ?_)]
      · exact h.lab d g hd
      · rcases hv with hv | hv
        · rw [hv] at e'
          have h1 := h.lab d g hd
          have h2 := h.lab c g e'
          rw [h1] at h2
          cases h2
          exact e rfl
        · rw [hv] at e'
          cases e'
          obtain ⟨us, hu⟩ := own_blk_lt (h.row d) hd
          have := (Array.getElem?_eq_some_iff.1 hu).1
          omega
/-- what waiting answers: read in every later world -/
structure AtR (W : World) (mb n : Nat) (V : Int → Value) (A : Int → List Int) : Prop where
  map : MpI W mb n nV V (fun c => !(A c).isEmpty)
  row : ∀ c, ∃ p d, V c = .slice p (A c).length d ∧ IntsR W p d (A c)
end Go.Proofs.Ytjabdhmkibahlaa
