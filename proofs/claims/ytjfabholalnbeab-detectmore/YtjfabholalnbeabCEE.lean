import Derived.Test.YtjfabholalnbeabCEC
namespace Go.Proofs.Ytjfabholalnbeab
open Go.RowKit Go.MapKept Go.ChangeMaps Go.WideShapes
set_option linter.unusedVariables false
set_option linter.unusedSimpArgs false

/-! ### those that are opened -/
/-- the rows of who waits where stay, whatever one map does -/
def RowsK (am : Nat) (w : World) (V : Int → Value) (A : Int → List Int) : Prop := ∀ c, ∃ p d, V c = .slice p (A c).length d ∧ (A c).length ≤ d ∧ d ≤ maxLen ∧ ∀ i (h : i < (A c).length), ∃ b o, p = some ⟨b, o, none⟩ ∧ I64 (A c)[i] ∧ ∀ X, KMp am w X → X.cell? ⟨b, o + i, none⟩ = some (.int .i64 (A c)[i])
theorem RowsK.later {am : Nat} {w w' : World} {V : Int → Value} {A : Int → List Int} (h : RowsK am w V A) (k : KMp am w w') : RowsK am w' V A := fun c => by
  obtain ⟨p, d, e, h1, h2, h3⟩ := h c
  exact ⟨p, d, e, h1, h2, fun i hi => by
    obtain ⟨b, o, e, h4, h5⟩ := h3 i hi
    exact ⟨b, o, e, h4, fun X hX => h5 X (k.trans hX)⟩⟩
/-- a map of links -/
def LkM (W : World) (mb n : Nat) (O : Int → Option Lk) : Prop := MpI W mb n (lkV ⟨0, 0, 0⟩) (fun c => lkV (lk0 (O c))) (fun c => (O c).isSome)
theorem LkM.look2 {W : World} {mb n : Nat} {O : Int → Option Lk} (h : LkM W mb n O) {c : Int} (hc : I64 c) : (Instr.lookup 81 (.map (some mb)) (.int .i64 c) true).run Try.prog W = .ok (.tuple #[.agg #[.int .i64 (lk0 (O c)).waker, .int .i64 (lk0 (O c)).woken, .int .i64 (lk0 (O c)).chan], .bool (O c).isSome]) W := MpI.look2 h Try.underlying81 Try.zeroValue38 hc
theorem LkM.put2 {W : World} {mb n : Nat} {O : Int → Option Lk} (h : LkM W mb n O) {c : Int} (hc : I64 c) (hn : n < maxLen) (l : Lk) : ∃ w', (Instr.mapUpdate 81 (.map (some mb)) (.int .i64 c) (.agg #[.int .i64 l.waker, .int .i64 l.woken, .int .i64 l.chan])).run Try.prog W = .ok () w' ∧ LkM w' mb (n + 1) (upd O c (some l)) ∧ W.grownBy w' (some mb) := by
  obtain ⟨w', h1, h2, h3⟩ := MpI.put h Try.underlying81 hc hn (lkV l)
  refine ⟨w', h1, h2.ext (fun d => ?_) (fun d => ?_), h3⟩
  · by_cases e : d = c
    · subst e; rw [upd_same, upd_same]; rfl
    · rw [upd_other _ _ e, upd_other _ _ e]
  · by_cases e : d = c
    · subst e; rw [upd_same, upd_same]; rfl
    · rw [upd_other _ _ e, upd_other _ _ e]
theorem lm_new (W : World) : LkM (W.alloc (.map #[] 0)) W.heap.size 0 (fun _ => none) := mp_new W _
/-- how many of K are found -/
def cntO (O : Int → Option Lk) (K : List Int) : Nat := (K.filter fun k => (O k).isSome).length
theorem cnt_le (O : Int → Option Lk) (K : List Int) : cntO O K ≤ K.length := List.length_filter_le _ _
theorem cnt_put {O : Int → Option Lk} {k : Int} (l : Lk) (h : O k = none) : ∀ {K : List Int}, k ∈ K → cntO O K + 1 ≤ cntO (upd O k (some l)) K := by
  have mono : ∀ (K : List Int), cntO O K ≤ cntO (upd O k (some l)) K := by
    intro K
    induction K with
    | nil => exact Nat.le_refl _
    | cons x r ih =>
      unfold cntO at ih ⊢
      rw [List.filter_cons, List.filter_cons]
      by_cases e : x = k
      · subst e
        rw [upd_same, h]
        simp
        omega
      · rw [upd_other _ _ e]
        split
        · simp only [List.length_cons]; omega
        · exact ih
  intro K hk
  induction K with
  | nil => cases hk
  | cons x r ih =>
    by_cases e : x = k
    · subst e
      have := mono r
      unfold cntO at this ⊢
      rw [List.filter_cons, List.filter_cons, upd_same, h]
      simp
      omega
    · have h2 := ih (by rcases List.mem_cons.1 hk with h | h; exact absurd h.symm e; exact h)
      unfold cntO at h2 ⊢
      rw [List.filter_cons, List.filter_cons, upd_other _ _ e]
      split
      · simp only [List.length_cons]; omega
      · exact h2
/-- what is found so far: those that wait at channels that are done -/
structure OpO (A : Int → List Int) (hy : Int → Bool) (L : Int → Lk) (done : Int → Bool) (O : Int → Option Lk) : Prop where
  yes : ∀ c id, done c = true → id ∈ A c → hy id = false → O id = some (L id)
  no : ∀ id, O id ≠ none → O id = some (L id) ∧ hy id = false ∧ ∃ c, done c = true ∧ id ∈ A c
/-- .. and of one channel the first j -/
structure OpJ (A : Int → List Int) (hy : Int → Bool) (L : Int → Lk) (done : Int → Bool) (c0 : Int) (l : List Int) (O : Int → Option Lk) : Prop where
  yes : ∀ c id, done c = true → id ∈ A c → hy id = false → O id = some (L id)
  now : ∀ id, id ∈ l → hy id = false → O id = some (L id)
  no : ∀ id, O id ≠ none → O id = some (L id) ∧ hy id = false ∧ ((∃ c, done c = true ∧ id ∈ A c) ∨ id ∈ A c0)
theorem OpO.start {A : Int → List Int} {hy : Int → Bool} {L : Int → Lk} {done : Int → Bool} {O : Int → Option Lk} (h : OpO A hy L done O) (c0 : Int) : OpJ A hy L done c0 [] O := ⟨h.yes, (fun id hi => by cases hi), fun id hi => by
  obtain ⟨h1, h2, h3⟩ := h.no id hi
  exact ⟨h1, h2, .inl h3⟩⟩
theorem OpJ.done {A : Int → List Int} {hy : Int → Bool} {L : Int → Lk} {dn dn' : Int → Bool} {c0 : Int} {O : Int → Option Lk} (h : OpJ A hy L dn c0 (A c0) O) (e : ∀ c, dn' c = (dn c || c == c0)) : OpO A hy L dn' O := by
  refine ⟨fun c id hc hi hn => ?_, fun id hi => ?_⟩
  · rw [e, Bool.or_eq_true] at hc
    rcases hc with hc | hc
    · exact h.yes c id hc hi hn
    · have : c = c0 := by simpa using hc
      subst this
      exact h.now id hi hn
  · obtain ⟨h1, h2, h3⟩ := h.no id hi
    refine ⟨h1, h2, ?_⟩
    rcases h3 with ⟨c, hc, h3⟩ | h3
    · exact ⟨c, by rw [e, hc]; rfl, h3⟩
    · exact ⟨c0, by rw [e]; simp, h3⟩
theorem OpJ.skip {A : Int → List Int} {hy : Int → Bool} {L : Int → Lk} {dn : Int → Bool} {c0 : Int} {l : List Int} {O : Int → Option Lk} (h : OpJ A hy L dn c0 l O) {id : Int} (hs : hy id = true ∨ O id ≠ none) : OpJ A hy L dn c0 (l ++ [id]) O := by
  refine ⟨h.yes, fun k hk hn => ?_, h.no⟩
  rcases List.mem_append.1 hk with hk | hk
  · exact h.now k hk hn
  · have : k = id := by simpa using hk
    subst this
    rcases hs with hs | hs
    · rw [hs] at hn; cases hn
    · exact (h.no k hs).1
theorem OpJ.put {A : Int → List Int} {hy : Int → Bool} {L : Int → Lk} {dn : Int → Bool} {c0 : Int} {l : List Int} {O : Int → Option Lk} (h : OpJ A hy L dn c0 l O) {id : Int} (hn : hy id = false) (hi : id ∈ A c0) : OpJ A hy L dn c0 (l ++ [id]) (upd O id (some (L id))) := by
  refine ⟨fun c k hc hk hn => ?_, fun k hk hn => ?_, fun k hk => ?_⟩
  · by_cases e : k = id
    · subst e; rw [upd_same]
    · rw [upd_other _ _ e]; exact h.yes c k hc hk hn
  · by_cases e : k = id
    · subst e; rw [upd_same]
    · rw [upd_other _ _ e]
      rcases List.mem_append.1 hk with hk | hk
      · exact h.now k hk hn
      · exact absurd (by simpa using hk) e
  · by_cases e : k = id
    · subst e
      rw [upd_same]
      exact ⟨rfl, hn, .inr hi⟩
    · rw [upd_other _ _ e] at hk ⊢
      exact h.no k hk
set_option maxRecDepth 100000 in
theorem open1_any (X : World) (h : Hd) (hc : I64 h.chan) (bx hm n : Nat) (H : Int → Option Int) (hk : X.heap[bx]? = some (.cells #[.map (some hm)] 84 (0, 0))) (hh : HoM X hm n H) :
    Calls Try.prog 55 #[hdV h, .pointer (some ⟨bx, 0, none⟩)] X fun e w' => e = .returned (oT (H h.chan)) ∧ Below X.heap.size X w' := by
  obtain ⟨ch, sd⟩ := h
  simp only [hdV] at hc ⊢
  obtain ⟨Y, hY⟩ : ∃ Y, X.alloc (.cells #[.int .i64 ch, .bool sd] 53) = Y := ⟨_, rfl⟩
  have hb : Below X.heap.size X Y := by rw [← hY]; exact below1 _ _
  have hkY : Y.heap[X.heap.size]? = some (.cells #[.int .i64 ch, .bool sd] 53 (0, 0)) := by rw [← hY]; exact World.alloc_heap_new _ _
  have c0 : Y.cell? ⟨X.heap.size, 0, none⟩ = some (.int .i64 ch) := cell_of hkY rfl
  have c1 : Y.cell? ⟨bx, 0, none⟩ = some (.map (some hm)) := cell_of ((hb.block _ (Array.getElem?_eq_some_iff.1 hk).1).trans hk) rfl
  have hl := HoM.look2 (MpI.below hh hb) Try.underlying84 Try.zeroValue3 hc
  have HB : Bx (Below X.heap.size X Y) := ⟨hb⟩
  have HYE : Bx (_ = Y) := ⟨hY⟩
  rw [← hY] at c0 c1 hl
  clear hb hkY hY hk hh
  go_enter Try.func55, Try.ntmps55
  go_wp2
  exact bodyPost_ret (v := oT (H ch)) (by simp [results, Try.results55, go_sem, oT]) rfl ⟨rfl, by rw [HYE.out]; exact HB.out⟩
end Go.Proofs.Ytjfabholalnbeab
