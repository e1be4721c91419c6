import Derived.Test.YtjfabholalnbeabCEL
import Derived.Test.YtjfabholalnbeabCGDb
import Derived.Maps.OwnSet
namespace Go.Proofs.Ytjfabholalnbeab
open Go.RowKit Go.MapKept Go.ChangeMaps Go.WideShapes
set_option linter.unusedVariables false
set_option linter.unusedSimpArgs false

/-! ### find -/
structure FdC (w : World) (s : List Ag) (wm am ym sb : Nat) (K : List Int) : Prop where
  o1 : w.heap.size ≤ wm
  o2 : wm < am
  o3 : am < ym
  o4 : ym < sb
  kl : K.length ≤ 4096
  k64 : ∀ k ∈ K, I64 k
/-- the search under way, in memory -/
structure FdW (w X : World) (s : List Ag) (wm am ym sb : Nat) (M : Int → Value) (nw na ny : Nat) (V : Int → Value) (A : Int → List Int) (Y : Int → Option Wy) (K : List Int) : Prop where
  bel : Below w.heap.size w X
  blk : X.heap[sb]? = some (.cells #[.map (some wm), .map (some am), .map (some ym)] 80 (0, 0))
  who : MpI X wm nw zV M (hasD s)
  at_ : MpI X am na nV V (fun c => !(A c).isEmpty)
  row : RowsK am X V A
  way : WyM X ym ny Y
  cnt : ny ≤ cntY Y K
theorem FdW.below {w X Z : World} {s : List Ag} {wm am ym sb nw na ny : Nat} {M V : Int → Value} {A : Int → List Int} {Y : Int → Option Wy} {K : List Int} (h : FdW w X s wm am ym sb M nw na ny V A Y K) (hb : Below X.heap.size X Z) : FdW w Z s wm am ym sb M nw na ny V A Y K :=
  ⟨h.bel.trans (hb.mono h.bel.size), (hb.block _ (Array.getElem?_eq_some_iff.1 h.blk).1).trans h.blk, h.who.below hb, h.at_.below hb, h.row.later (KMp.below hb), MpI.below h.way hb, h.cnt⟩
/-- a way is put -/
theorem FdW.put {w X Z : World} {s : List Ag} {wm am ym sb nw na ny : Nat} {M V : Int → Value} {A : Int → List Int} {Y : Int → Option Wy} {K : List Int} (h : FdW w X s wm am ym sb M nw na ny V A Y K) (hc : FdC w s wm am ym sb K) {k : Int} {y : Wy} (hk : k ∈ K) (hn : Y k = none) (hm : WyM Z ym (ny + 1) (upd Y k (some y))) (hg : X.grownBy Z (some ym)) : FdW w Z s wm am ym sb M nw na (ny + 1) V A (upd Y k (some y)) K := by
  obtain ⟨o1, o2, o3, o4, _, _⟩ := hc
  have hb : ∀ b, b < X.heap.size → b ≠ ym → Z.heap[b]? = X.heap[b]? := fun b hb hn => hg.block b hb (fun e => hn (by cases e; rfl))
  refine ⟨h.bel.grown hg h.bel.size (fun r e => by cases e; omega), (hb _ (Array.getElem?_eq_some_iff.1 h.blk).1 (by omega)).trans h.blk, h.who.same (hb _ h.who.lt (by omega)), h.at_.same (hb _ h.at_.lt (by omega)), fun c => ?_, hm, Nat.le_trans (Nat.succ_le_succ h.cnt) (cntY_put y hn hk)⟩
  obtain ⟨p, d, e, h1, h2, h3⟩ := h.row c
  refine ⟨p, d, e, h1, h2, fun i hi => ?_⟩
  obtain ⟨b, o, e1, h4, h5⟩ := h3 i hi
  refine ⟨b, o, e1, h4, fun T hT => ?_⟩
  -- the cell as it stands in X, and in what comes of it
  have hx := h5 X (KMp.refl _ _)
  have hbx := World.block_lt_of_cell? X _ hx
  have hby : b ≠ ym := fun e2 => by
    obtain ⟨D, ⟨es, clock, h0, _⟩, _⟩ := MpI.ex h.way
    rw [e2] at hx
    simp only [World.cell?, h0] at hx
    cases hx
  have hba : b ≠ am := fun e2 => by
    obtain ⟨D, ⟨es, clock, h0, _⟩, _⟩ := h.at_.ex
    rw [e2] at hx
    simp only [World.cell?, h0] at hx
    cases hx
  have e3 : T.heap[b]? = X.heap[b]? := (hT.keep b (Nat.lt_of_lt_of_le hbx hg.size) hba).trans (hb b hbx hby)
  rw [show T.cell? ⟨b, o + i, none⟩ = X.cell? ⟨b, o + i, none⟩ by simp only [World.cell?, e3]]
  exact hx
/-- what open leaves -/
theorem FdW.opened {w X Z : World} {s : List Ag} {wm am ym sb nw na ny om n : Nat} {M V : Int → Value} {A : Int → List Int} {Y : Int → Option Wy} {K : List Int} {f : Int → Ag} {H : Int → Option Int} {hy : Int → Bool} {O : Int → Option Lk} (h : FdW w X s wm am ym sb M nw na ny V A Y K) (hc : FdC w s wm am ym sb K) (hp : OpPost X Z am na f H V A hy K om n O) : FdW w Z s wm am ym sb M nw na ny (fun c => if (H c).isSome then nV else V c) (cutA H A) Y K := by
  obtain ⟨o1, o2, o3, o4, _, _⟩ := hc
  have hk := hp.kmp
  exact ⟨hk.low h.bel (by omega), (hk.keep _ (Array.getElem?_eq_some_iff.1 h.blk).1 (by omega)).trans h.blk, hk.map h.who (by omega), hp.at_, (h.row.later hk).off H, hk.map h.way (by omega), h.cnt⟩
end Go.Proofs.Ytjfabholalnbeab
namespace Go.Proofs.Ytjfabholalnbeab
open Go.RowKit Go.MapKept Go.ChangeMaps Go.WideShapes
set_option linter.unusedVariables false
set_option linter.unusedSimpArgs false

section
variable {w : World} {ops : Array Oper} {rest : List Oper} {o : Oper} {a : Act} {Q : Exit → Act → World → Prop}
theorem lenI (hg : o.guard = none) (m : Operand) (t e : TypeId) (hop : o.op = Op.call { callee := Callee.builtin Builtin.len, args := #[m], argTypes := #[t] }) (ht : Try.prog.underlying t = some (.map 3 e)) (mb n : Nat) (z : Value) (M : Int → Value) (hs : Int → Bool) (hz : ∀ w, (zeroValue e).run Try.prog w = .ok z w)
    (hm : a.eval m = .map (some mb)) (h : MpI w mb n z M hs) (hK : ∀ q : Nat, q ≤ n → (0 < q → ∃ c, I64 c ∧ hs c = true) → ((∃ c, I64 c ∧ hs c = true) → 0 < q) → wpList Try.prog ops Q rest (a.put o.dst (.int .i64 q)) w) :
    wpList Try.prog ops Q (o :: rest) a w := by
  obtain ⟨q, h1, h2, h3, h4⟩ := h.len ht hz o.type
  refine wpList_plain hg fun K' hK' => ?_
  unfold Oper.wp
  simp [execOp, hop, resolve, invoke, builtin, hm, h1, Result.andThen]
  exact hK' _ _ (hK q h2 h3 h4)
end
/-! ### plain facts for find -/
theorem ho_some (f : Int → Ag) (A : Int → List Int) : ∀ (ids : List Int) (c : Int), (hoD f A ids c).isSome = true → ∃ id ∈ ids, c ∈ (f id).held := by
  have step : ∀ (id : Int) (l : List Int) (H : Int → Option Int) (c : Int), (hoHeld A id H l c).isSome = true → (H c).isSome = true ∨ c ∈ l := by
    intro id l
    induction l with
    | nil => intro H c h; exact .inl h
    | cons x r ih =>
      intro H c h
      rcases ih (hoStep A id H x) c h with h | h
      · unfold hoStep at h
        split at h
        · by_cases e : c = x
          · exact .inr (by rw [e]; exact List.mem_cons_self)
          · rw [upd_other _ _ e] at h; exact .inl h
        · exact .inl h
      · exact .inr (List.mem_cons_of_mem _ h)
  have key : ∀ (ids : List Int) (H : Int → Option Int) (c : Int), (hoF f A H ids c).isSome = true → (H c).isSome = true ∨ ∃ id ∈ ids, c ∈ (f id).held := by
    intro ids
    induction ids with
    | nil => intro H c h; exact .inl h
    | cons x r ih =>
      intro H c h
      rcases ih (hoHeld A x H (f x).held) c h with h | ⟨id, h1, h2⟩
      · rcases step x _ H c h with h | h
        · exact .inl h
        · exact .inr ⟨x, List.mem_cons_self, h⟩
      · exact .inr ⟨id, List.mem_cons_of_mem _ h1, h2⟩
  intro ids c h
  rcases key ids _ c h with h | h
  · cases h
  · exact h
theorem who_held {w : World} {f : Int → Ag} {M : Int → Value} (h : WhoV w f M) {id c : Int} (hc : c ∈ (f id).held) : I64 c := by
  obtain ⟨_, _, _, _, _, hA⟩ := h id
  obtain ⟨i, hi, rfl⟩ := List.mem_iff_getElem.1 hc
  obtain ⟨_, _, _, h1, _⟩ := hA.held.at_ i hi
  exact h1
theorem ou_mem (H : Int → Option Int) (B : Hd → List Int) (s : List Ag) (k : Int) (h : ouD H B s k ≠ none) : k ∈ s.map (·.id) := by
  have key : ∀ (s : List Ag) (O : Int → Option Lk), s.foldl (ouStep H B) O k ≠ none → O k ≠ none ∨ k ∈ s.map (·.id) := by
    intro s
    induction s with
    | nil => intro O h; exact .inl h
    | cons a r ih =>
      intro O h
      rcases ih _ h with h | h
      · unfold ouStep at h
        cases hk : lkD a (wk1 H B a.id) with
        | some l =>
          rw [hk] at h
          by_cases e : k = a.id
          · exact .inr (by rw [e]; exact List.mem_cons_self)
          · simp only at h
            rw [upd_other _ _ e] at h; exact .inl h
        | none =>
          rw [hk] at h
          exact .inl h
      · exact .inr (List.mem_cons_of_mem _ h)
  rcases key s _ h with h | h
  · exact absurd rfl h
  · exact h
theorem who_few {s : List Ag} (hf : Few2 s) (k : Int) : (whoD s k).held.length ≤ 8589934592 := by
  have key : ∀ (s : List Ag) (g : Int → Ag), (∀ k, (g k).held.length ≤ 8589934592) → (∀ a ∈ s, a.held.length ≤ 8589934592) → ∀ k, (s.foldl (fun f a => upd f a.id a) g k).held.length ≤ 8589934592 := by
    intro s
    induction s with
    | nil => intro g hg _ k; exact hg k
    | cons a r ih =>
      intro g hg ha k
      refine ih _ (fun d => ?_) (fun b hb => ha b (List.mem_cons_of_mem _ hb)) k
      show (upd g a.id a d).held.length ≤ 8589934592
      by_cases e : d = a.id
      · subst e; rw [upd_same]; exact ha a List.mem_cons_self
      · rw [upd_other _ _ e]; exact hg d
  exact key s _ (fun k => by simp [zA]) (fun a ha => (hf a ha).1) k
/-- a level that is being put among the ways -/
structure PtY (k : Nat) (Y : Int → Option Wy) (N : Int → Option Lk) (left : Int → Bool) (sought : Int) (Yc : Int → Option Wy) : Prop where
  yes : ∀ id l, N id = some l → left id = false → Yc id = some ((k : Int), l)
  no : ∀ id, N id = none → Yc id = Y id
  not : ∀ id, left id = true → Yc id = Y id
  so : N sought ≠ none → left sought = true
theorem PtY.start (k : Nat) (Y : Int → Option Wy) (N : Int → Option Lk) (sought : Int) : PtY k Y N (fun c => (N c).isSome) sought Y :=
  ⟨fun id l h1 h2 => by simp [h1] at h2, fun _ _ => rfl, fun _ _ => rfl, fun h => by cases hn : N sought with
    | none => exact absurd hn h
    | some l => rfl⟩
theorem PtY.put {k : Nat} {Y : Int → Option Wy} {N : Int → Option Lk} {left : Int → Bool} {sought : Int} {Yc : Int → Option Wy} (h : PtY k Y N left sought Yc) {c : Int} {l : Lk} (hc : N c = some l) (hne : c ≠ sought) : PtY k Y N (fun d => left d && !(d == c)) sought (upd Yc c (some ((k : Int), l))) := by
  refine ⟨fun id l' h1 h2 => ?_, fun id h1 => ?_, fun id h1 => ?_, fun h1 => ?_⟩
  · by_cases e : id = c
    · subst e; rw [hc] at h1; cases h1; rw [upd_same]
    · rw [upd_other _ _ e]
      have : (id == c) = false := by simpa using e
      rw [this] at h2
      exact h.yes id l' h1 (by simpa using h2)
  · by_cases e : id = c
    · subst e; rw [hc] at h1; cases h1
    · rw [upd_other _ _ e]; exact h.no id h1
  · by_cases e : id = c
    · subst e; simp at h1
    · rw [upd_other _ _ e]
      simp only [Bool.and_eq_true] at h1
      exact h.not id h1.1
  · have := h.so h1
    have e : (sought == c) = false := by simpa using fun e => hne e.symm
    simp [this, e]
theorem PtY.done {k : Nat} {Y : Int → Option Wy} {N : Int → Option Lk} {left : Int → Bool} {sought : Int} {Yc : Int → Option Wy} (h : PtY k Y N left sought Yc) (hl : ∀ c, I64 c → left c = false) (h64 : ∀ c, N c ≠ none → I64 c) : Yc = wyN k Y N ∧ N sought = none := by
  constructor
  · funext id
    unfold wyN
    cases hn : N id with
    | none => exact h.no id hn
    | some l => exact h.yes id l hn (hl id (h64 id (by rw [hn]; simp)))
  · cases hn : N sought with
    | none => rfl
    | some l =>
      have h1 : N sought ≠ none := by rw [hn]; simp
      have := h.so h1
      rw [hl _ (h64 _ h1)] at this
      cases this
end Go.Proofs.Ytjfabholalnbeab
