import Derived.Test.YtjabdhmkibahlaaCED
import Derived.Test.YtjabdhmkibahlaaCGN
namespace Go.Proofs.Ytjabdhmkibahlaa
open Go.RowKit Go.MapKept Go.ChangeMaps Go.WideShapes
set_option linter.unusedVariables false
set_option linter.unusedSimpArgs false

/-! ### those that are opened -/
/-- the rows of who waits where stay, whatever one map does -/
def RowsK (am : Nat) (w : World) (V : Int → Value) (A : Int → List Int) : Prop := ∀ c, ∃ p d, V c = .slice p (A c).length d ∧ (A c).length ≤ d ∧ d ≤ maxLen ∧ ∀ i (h : i < (A c).length), ∃ b o, p = some ⟨b, o, none⟩ ∧ I64 (A c)[i] ∧ ∀ X, KMp am w X → X.cell? ⟨b, o + i, none⟩ = some (.int .i64 (A c)[i])
theorem RowsK.later {am : Nat} {w w' : World} {V : Int → Value} {A : Int → List Int} (h : RowsK am w V A) (k : KMp am w w') : RowsK am w' V A := fun c => by
  obtain ⟨p, d, e, h1, h2, h3⟩ := h c
  exact ⟨p, d, e, h1, h2, fun i hi => by
    obtain ⟨b, o, e, h4, h5⟩ := h3 i hi
    exact ⟨b, o, e, h4, fun X hX => h5 X (k.trans hX)⟩⟩
/-- a map of links -/
def LkM (W : World) (mb n : Nat) (O : Int → Option Lk) : Prop := MpI W mb n (lkV ⟨0, 0, 0⟩) (fun c => lkV (lk0 (O c))) (fun c => (O c).isSome)
theorem LkM.look2 {W : World} {mb n : Nat} {O : Int → Option Lk} (h : LkM W mb n O) {c : Int} (hc : I64 c) : (Instr.lookup 101 (.map (some mb)) (.int .i64 c) true).run Try.prog W = .ok (.tuple #[.agg #[.int .i64 (lk0 (O c)).waker, .int .i64 (lk0 (O c)).woken, .int .i64 (lk0 (O c)).chan], .bool (O c).isSome]) W := MpI.look2 h Try.underlying101 Try.zeroValue24 hc
theorem LkM.put2 {W : World} {mb n : Nat} {O : Int → Option Lk} (h : LkM W mb n O) {c : Int} (hc : I64 c) (hn : n < maxLen) (l : Lk) : ∃ w', (Instr.mapUpdate 101 (.map (some mb)) (.int .i64 c) (.agg #[.int .i64 l.waker, .int .i64 l.woken, .int .i64 l.chan])).run Try.prog W = .ok () w' ∧ LkM w' mb (n + 1) (upd O c (some l)) ∧ W.grownBy w' (some mb) := by
  obtain ⟨w', h1, h2, h3⟩ := MpI.put h Try.underlying101 hc hn (lkV l)
  refine ⟨w', h1, h2.ext (fun d => ?_) (fun d => ?_), h3⟩
  · by_cases e : d = c
    · subst e; rw [upd_same, upd_same]; rfl
    · rw [upd_other _ _ e, upd_other _ _ e]
  · by_cases e : d = c
    · subst e; rw [upd_same, upd_same]; rfl
    · rw [upd_other _ _ e, upd_other _ _ e]
theorem lm_new (W : World) : LkM (W.alloc (.map #[] 0)) W.heap.size 0 (fun _ => none) := mp_new W _
/-- how many of K are found -/
def cntO (O : Int → Option Lk) (K : List Int) : Nat := (K.filter fun k => (O k).isSome).length
theorem cnt_le (O : Int → Option Lk) (K : List Int) : cntO O K ≤ K.length := List.length_filter_le _ _
theorem cnt_put {O : Int → Option Lk} {k : Int} (l : Lk) (h : O k = none) : ∀ {K : List Int}, k ∈ K → cntO O K + 1 ≤ cntO (upd O k (some l)) K := by
  have mono : ∀ (K : List Int), cntO O K ≤ cntO (upd O k (some l)) K := by
    intro K
    induction K with
    | nil => exact Nat.le_refl _
    | cons x r ih =>
      unfold cntO at ih ⊢
      rw [List.filter_cons, List.filter_cons]
      by_cases e : x = k
      · subst e
        rw [upd_same, h]
        simp
        omega
      · rw [upd_other _ _ e]
        split
        · simp only [List.length_cons]; omega
        · exact ih
  intro K hk
  induction K with
  | nil => cases hk
  | cons x r ih =>
    by_cases e : x = k
    · subst e
      have := mono r
      unfold cntO at this ⊢
      rw [List.filter_cons, List.filter_cons, upd_same, h]
      simp
      omega
    · have h2 := ih (by rcases List.mem_cons.1 hk with h | h; exact absurd h.symm e; exact h)
      unfold cntO at h2 ⊢
      rw [List.filter_cons, List.filter_cons, upd_other _ _ e]
      split
      · simp only [List.length_cons]; omega
      · exact h2
/-- what is found so far: those that wait at channels that are done -/
structure OpO (A : Int → List Int) (hy : Int → Bool) (L : Int → Lk) (done : Int → Bool) (O : Int → Option Lk) : Prop where
  yes : ∀ c id, done c = true → id ∈ A c → hy id = false → O id = some (L id)
  no : ∀ id, O id ≠ none → O id = some (L id) ∧ hy id = false ∧ ∃ c, done c = true ∧ id ∈ A c
/-- .. and of one channel the first j -/
structure OpJ (A : Int → List Int) (hy : Int → Bool) (L : Int → Lk) (done : Int → Bool) (c0 : Int) (l : List Int) (O : Int → Option Lk) : Prop where
  yes : ∀ c id, done c = true → id ∈ A c → hy id = false → O id = some (L id)
  now : ∀ id, id ∈ l → hy id = false → O id = some (L id)
  no : ∀ id, O id ≠ none → O id = some (L id) ∧ hy id = false ∧ ((∃ c, done c = true ∧ id ∈ A c) ∨ id ∈ A c0)
theorem OpO.start {A : Int → List Int} {hy : Int → Bool} {L : Int → Lk} {done : Int → Bool} {O : Int → Option Lk} (h : OpO A hy L done O) (c0 : Int) : OpJ A hy L done c0 [] O := ⟨h.yes, (fun id hi => by cases hi), fun id hi => by
  obtain ⟨h1, h2, h3⟩ := h.no id hi
  exact ⟨h1, h2, .inl h3⟩⟩
theorem OpJ.done {A : Int → List Int} {hy : Int → Bool} {L : Int → Lk} {dn dn' : Int → Bool} {c0 : Int} {O : Int → Option Lk} (h : OpJ A hy L dn c0 (A c0) O) (e : ∀ c, dn' c = (dn c || c == c0)) : OpO A hy L dn' O := by
  refine ⟨fun c id hc hi hn => ?_, fun id hi => ?_⟩
  · rw [e, Bool.or_eq_true] at hc
    rcases hc with hc | hc
    · exact h.yes c id hc hi hn
    · have : c = c0 := by simpa using hc
      subst this
      exact h.now id hi hn
  · obtain ⟨h1, h2, h3⟩ := h.no id hi
    refine ⟨h1, h2, ?_⟩
    rcases h3 with ⟨c, hc, h3⟩ | h3
    · exact ⟨c, by rw [e, hc]; rfl, h3⟩
    · exact ⟨c0, by rw [e]; simp, h3⟩
theorem OpJ.skip {A : Int → List Int} {hy : Int → Bool} {L : Int → Lk} {dn : Int → Bool} {c0 : Int} {l : List Int} {O : Int → Option Lk} (h : OpJ A hy L dn c0 l O) {id : Int} (hs : hy id = true ∨ O id ≠ none) : OpJ A hy L dn c0 (l ++ [id]) O := by
  refine ⟨h.yes, fun k hk hn => ?_, h.no⟩
  rcases List.mem_append.1 hk with hk | hk
  · exact h.now k hk hn
  · have : k = id := by simpa using hk
    subst this
    rcases hs with hs | hs
    · rw [hs] at hn; cases hn
    · exact (h.no k hs).1
theorem OpJ.put {A : Int → List Int} {hy : Int → Bool} {L : Int → Lk} {dn : Int → Bool} {c0 : Int} {l : List Int} {O : Int → Option Lk} (h : OpJ A hy L dn c0 l O) {id : Int} (hn : hy id = false) (hi : id ∈ A c0) : OpJ A hy L dn c0 (l ++ [id]) (upd O id (some (L id))) := by
  refine ⟨fun c k hc hk hn => ?_, fun k hk hn => ?_, fun k hk => ?_⟩
  · by_cases e : k = id
    · subst e; rw [upd_same]
    · rw [upd_other _ _ e]; exact h.yes c k hc hk hn
  · by_cases e : k = id
    · subst e; rw [upd_same]
    · rw [upd_other _ _ e]
      rcases List.mem_append.1 hk with hk | hk
      · exact h.now k hk hn
      · exact absurd (by simpa using hk) e
  · by_cases e : k = id
    · subst e
      rw [upd_same]
      exact ⟨rfl, hn, .inr hi⟩
    · rw [upd_other _ _ e] at hk ⊢
      exact h.no k hk
set_option maxRecDepth 100000 in
theorem open1_any (X : World) (h : Hd) (hc : I64 h.chan) (bx hm n : Nat) (H : Int → Option Int) (hk : X.heap[bx]? = some (.cells #[.map (some hm)] 104 (0, 0))) (hh : HoM X hm n H) :
    Calls Try.prog 81 #[hdV h, .pointer (some ⟨bx, 0, none⟩)] X fun e w' => e = .returned (oT (H h.chan)) ∧ Below X.heap.size X w' := by
  obtain ⟨ch, sd⟩ := h
  simp only [hdV] at hc ⊢
  obtain ⟨Y, hY⟩ : ∃ Y, X.alloc (.cells #[.int .i64 ch, .bool sd] 58) = Y := ⟨_, rfl⟩
  have hb : Below X.heap.size X Y := by rw [← hY]; exact below1 _ _
  have hkY : Y.heap[X.heap.size]? = some (.cells #[.int .i64 ch, .bool sd] 58 (0, 0)) := by rw [← hY]; exact World.alloc_heap_new _ _
  have c0 : Y.cell? ⟨X.heap.size, 0, none⟩ = some (.int .i64 ch) := cell_of hkY rfl
  have c1 : Y.cell? ⟨bx, 0, none⟩ = some (.map (some hm)) := cell_of ((hb.block _ (Array.getElem?_eq_some_iff.1 hk).1).trans hk) rfl
  have hl := HoM.look2 (MpI.below hh hb) Try.underlying104 Try.zeroValue3 hc
  have HB : Bx (Below X.heap.size X Y) := ⟨hb⟩
  have HYE : Bx (_ = Y) := ⟨hY⟩
  rw [← hY] at c0 c1 hl
  clear hb hkY hY hk hh
  go_enter Try.func81, Try.ntmps81
  go_wp2
  exact bodyPost_ret (v := oT (H ch)) (by simp [results, Try.results81, go_sem, oT]) rfl ⟨rfl, by rw [HYE.out]; exact HB.out⟩
end Go.Proofs.Ytjabdhmkibahlaa
namespace Go.Proofs.Ytjabdhmkibahlaa
open Go.RowKit Go.MapKept Go.ChangeMaps Go.WideShapes
set_option linter.unusedVariables false
set_option linter.unusedSimpArgs false

/-! ### open -/
abbrev Wy := Int × Lk
def wy0 (o : Option Wy) : Wy := o.getD (0, ⟨0, 0, 0⟩)
def wyV (y : Wy) : Value := .agg #[.int .i64 y.1, .int .i64 y.2.waker, .int .i64 y.2.woken, .int .i64 y.2.chan]
def WyM (W : World) (mb n : Nat) (Y : Int → Option Wy) : Prop := MpI W mb n (wyV (0, ⟨0, 0, 0⟩)) (fun c => wyV (wy0 (Y c))) (fun c => (Y c).isSome)
theorem WyM.look2 {W : World} {mb n : Nat} {Y : Int → Option Wy} (h : WyM W mb n Y) {c : Int} (hc : I64 c) : (Instr.lookup 80 (.map (some mb)) (.int .i64 c) true).run Try.prog W = .ok (.tuple #[.agg #[.int .i64 (wy0 (Y c)).1, .int .i64 (wy0 (Y c)).2.waker, .int .i64 (wy0 (Y c)).2.woken, .int .i64 (wy0 (Y c)).2.chan], .bool (Y c).isSome]) W := MpI.look2 h Try.underlying80 Try.zeroValue83 hc
/-- the link by which one is opened -/
def opL (f : Int → Ag) (H : Int → Option Int) (id : Int) : Lk := lk0 (lkD (f id) (fun h => H h.chan))
/-- what is done -/
def dnI (H : Int → Option Int) (left : Int → Bool) (c : Int) : Bool := (H c).isSome && !left c
def offV (H : Int → Option Int) (left : Int → Bool) (V : Int → Value) (c : Int) : Value := if dnI H left c then nV else V c
def offA (H : Int → Option Int) (left : Int → Bool) (A : Int → List Int) (c : Int) : List Int := if dnI H left c then [] else A c
structure OpW (w wr : World) (am hm om r nh na wm ym : Nat) (f : Int → Ag) (H : Int → Option Int) (V : Int → Value) (A : Int → List Int) (hy : Int → Bool) (K : List Int) (left la : Int → Bool) (cnt n : Nat) (O : Int → Option Lk) : Prop where
  kmp : KMp am w wr
  k0 : wr.heap[w.heap.size]? = some (.cells #[.map (some wm), .map (some am), .map (some ym)] 100 (0, 0))
  k1 : wr.heap[w.heap.size + 1]? = some (.cells #[.map (some hm)] 104 (0, 0))
  rg : RgI wr hm r nh (.int .i64 0) (fun c => oV (H c)) (fun c => (H c).isSome) left cnt
  out : LkM wr om n O
  cnt : n ≤ cntO O K
  at_ : MpI wr am na nV (offV H la V) (fun c => !(offA H la A c).isEmpty)
theorem OpW.below {w wr X : World} {am hm om r nh na wm ym cnt n : Nat} {f : Int → Ag} {H : Int → Option Int} {V : Int → Value} {A : Int → List Int} {hy left la : Int → Bool} {K : List Int} {O : Int → Option Lk} (h : OpW w wr am hm om r nh na wm ym f H V A hy K left la cnt n O) (hb : Below wr.heap.size wr X) : OpW w X am hm om r nh na wm ym f H V A hy K left la cnt n O :=
  ⟨h.kmp.trans (KMp.below hb), (hb.block _ (Array.getElem?_eq_some_iff.1 h.k0).1).trans h.k0, (hb.block _ (Array.getElem?_eq_some_iff.1 h.k1).1).trans h.k1, h.rg.same (hb.block _ h.rg.lt.1) (hb.block _ h.rg.lt.2), MpI.below h.out hb, h.cnt, h.at_.below hb⟩
theorem OpW.next {w wr X : World} {am hm om r nh na wm ym cnt cnt' n : Nat} {f : Int → Ag} {H : Int → Option Int} {V : Int → Value} {A : Int → List Int} {hy left left' la : Int → Bool} {K : List Int} {O : Int → Option Lk} (h : OpW w wr am hm om r nh na wm ym f H V A hy K left la cnt n O) (hr : RgI X hm r nh (.int .i64 0) (fun c => oV (H c)) (fun c => (H c).isSome) left' cnt') (hg : wr.grownBy X (some r)) (o1 : w.heap.size + 2 ≤ r) (o2 : om ≠ r) (o3 : am ≠ r) : OpW w X am hm om r nh na wm ym f H V A hy K left' la cnt' n O := by
  have hb : ∀ b, b < wr.heap.size → b ≠ r → X.heap[b]? = wr.heap[b]? := fun b hb hn => hg.block b hb (fun e => hn (by cases e; rfl))
  exact ⟨h.kmp.over hg (by omega), (hb _ (Array.getElem?_eq_some_iff.1 h.k0).1 (by omega)).trans h.k0, (hb _ (Array.getElem?_eq_some_iff.1 h.k1).1 (by omega)).trans h.k1, hr, MpI.same h.out (hb _ (MpI.lt h.out) o2), h.cnt, h.at_.same (hb _ h.at_.lt o3)⟩
/-- a link is put -/
theorem OpW.put {w wr X : World} {am hm om r nh na wm ym cnt n : Nat} {f : Int → Ag} {H : Int → Option Int} {V : Int → Value} {A : Int → List Int} {hy left la : Int → Bool} {K : List Int} {O : Int → Option Lk} (h : OpW w wr am hm om r nh na wm ym f H V A hy K left la cnt n O) {k : Int} {l : Lk} (hO : O k = none) (hk : k ∈ K) (hm1 : LkM X om (n + 1) (upd O k (some l))) (hg : wr.grownBy X (some om)) (o1 : w.heap.size + 2 ≤ om) (o2 : om ≠ r) (o3 : om ≠ hm) (o4 : om ≠ am) : OpW w X am hm om r nh na wm ym f H V A hy K left la cnt (n + 1) (upd O k (some l)) := by
  have hb : ∀ b, b < wr.heap.size → b ≠ om → X.heap[b]? = wr.heap[b]? := fun b hb hn => hg.block b hb (fun e => hn (by cases e; rfl))
  exact ⟨h.kmp.over hg (by omega), (hb _ (Array.getElem?_eq_some_iff.1 h.k0).1 (by omega)).trans h.k0, (hb _ (Array.getElem?_eq_some_iff.1 h.k1).1 (by omega)).trans h.k1, h.rg.same (hb _ h.rg.lt.1 (fun e => o3 e.symm)) (hb _ h.rg.lt.2 (fun e => o2 e.symm)), hm1, Nat.le_trans (Nat.succ_le_succ h.cnt) (cnt_put l hO hk), h.at_.same (hb _ h.at_.lt (fun e => o4 e.symm))⟩
/-- a channel is closed -/
theorem OpW.del {w wr X : World} {am hm om r nh na wm ym cnt n : Nat} {f : Int → Ag} {H : Int → Option Int} {V : Int → Value} {A : Int → List Int} {hy left left' : Int → Bool} {K : List Int} {O : Int → Option Lk} {c : Int} (h : OpW w wr am hm om r nh na wm ym f H V A hy K left left' cnt n O) (hH : (H c).isSome = true) (hl : ∀ d, left d = (left' d && !(d == c))) (hm1 : MpI X am na nV (upd (offV H left' V) c nV) (upd (fun c => !(offA H left' A c).isEmpty) c false)) (hg : wr.grownBy X (some am)) (o1 : am < w.heap.size) (o2 : am ≠ r) (o3 : am ≠ hm) (o4 : am ≠ om) : OpW w X am hm om r nh na wm ym f H V A hy K left left cnt n O := by
  have hb : ∀ b, b < wr.heap.size → b ≠ am → X.heap[b]? = wr.heap[b]? := fun b hb hn => hg.block b hb (fun e => hn (by cases e; rfl))
  have hd : ∀ d, dnI H left d = (dnI H left' d || d == c) := fun d => by
    unfold dnI
    rw [hl]
    by_cases e : d = c
    · subst e; simp [hH]
    · have : (d == c) = false := by simpa using e
      simp [this]
  refine ⟨h.kmp.trans (KMp.grown hg), (hb _ (Array.getElem?_eq_some_iff.1 h.k0).1 (by omega)).trans h.k0, (hb _ (Array.getElem?_eq_some_iff.1 h.k1).1 (by omega)).trans h.k1, h.rg.same (hb _ h.rg.lt.1 (fun e => o3 e.symm)) (hb _ h.rg.lt.2 (fun e => o2 e.symm)), MpI.same h.out (hb _ (MpI.lt h.out) (fun e => o4 e.symm)), h.cnt, hm1.ext (fun d => ?_) (fun d => ?_)⟩
  · unfold offV
    by_cases e : d = c
    · subst e; rw [upd_same, hd]; simp
    · rw [upd_other _ _ e, hd]
      have : (d == c) = false := by simpa using e
      rw [this, Bool.or_false]
  · by_cases e : d = c
    · subst e; rw [upd_same]; unfold offA; rw [hd]; simp
    · rw [upd_other _ _ e]
      unfold offA
      rw [hd]
      have : (d == c) = false := by simpa using e
      rw [this, Bool.or_false]
/-- the head of open's loops -/
theorem OpW.head {w W : World} {am hm nh na wm ym : Nat} {f : Int → Ag} {H : Int → Option Int} {V : Int → Value} {A : Int → List Int} {hy : Int → Bool} {K : List Int}
    (hH : HoM w hm nh H) (hA : MpI w am na nV V (fun c => !(A c).isEmpty)) (hW : ((w.alloc (.cells #[.map (some wm), .map (some am), .map (some ym)] 100)).alloc (.cells #[.map (some hm)] 104)).alloc (.map #[] 0) = W) {w1 : World} {cnt : Nat} (hrg : RgI w1 hm W.heap.size nh (.int .i64 0) (fun c => oV (H c)) (fun c => (H c).isSome) (fun c => (H c).isSome) cnt) (hb1 : Below W.heap.size W w1) :
    OpW w w1 am hm (w.heap.size + 2) W.heap.size nh na wm ym f H V A hy K (fun c => (H c).isSome) (fun c => (H c).isSome) cnt 0 (fun _ => none) ∧ OpO A hy (opL f H) (dnI H (fun c => (H c).isSome)) (fun _ => none) ∧ W.heap.size = w.heap.size + 3 := by
  have z0 : Below w.heap.size w (w.alloc (.cells #[.map (some wm), .map (some am), .map (some ym)] 100)) := below1 _ _
  have z1 : Below w.heap.size w ((w.alloc (.cells #[.map (some wm), .map (some am), .map (some ym)] 100)).alloc (.cells #[.map (some hm)] 104)) := two_new _ _ _
  have z2 : Below w.heap.size w W := by rw [← hW]; exact z1.trans ((below1 _ _).mono z1.size)
  have hd : ∀ c, dnI H (fun c => (H c).isSome) c = false := fun c => by show ((H c).isSome && !(H c).isSome) = false; cases (H c).isSome <;> rfl
  have zz := z2.trans (hb1.mono z2.size)
  have hz : W.heap.size = w.heap.size + 3 := by rw [← hW]; simp
  have hk0 : W.heap[w.heap.size]? = some (.cells #[.map (some wm), .map (some am), .map (some ym)] 100 (0, 0)) := by
    rw [← hW]; exact up (up (alloc_at rfl))
  have hk1 : W.heap[w.heap.size + 1]? = some (.cells #[.map (some hm)] 104 (0, 0)) := by
    rw [← hW]; exact up (alloc_at (by simp))
  have hk2 : LkM W (w.heap.size + 2) 0 (fun _ => none) := by
    have := lm_new ((w.alloc (.cells #[.map (some wm), .map (some am), .map (some ym)] 100)).alloc (.cells #[.map (some hm)] 104))
    rw [World.size_alloc, World.size_alloc, hW] at this
    exact this
  refine ⟨⟨KMp.below zz, (hb1.block _ (Array.getElem?_eq_some_iff.1 hk0).1).trans hk0, (hb1.block _ (Array.getElem?_eq_some_iff.1 hk1).1).trans hk1, hrg, MpI.below hk2 hb1, Nat.zero_le _, (hA.below zz).ext (fun c => ?_) (fun c => ?_)⟩, ⟨fun c id hc => ?_, fun id h => absurd rfl h⟩, hz⟩
  · unfold offV; rw [hd]; rfl
  · unfold offA; rw [hd]; rfl
  · rw [hd] at hc; cases hc
end Go.Proofs.Ytjabdhmkibahlaa
