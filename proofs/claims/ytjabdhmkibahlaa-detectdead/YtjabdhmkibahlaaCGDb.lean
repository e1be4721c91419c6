import Derived.Test.YtjabdhmkibahlaaCGD
import Derived.Test.YtjabdhmkibahlaaCGP
import Derived.Test.YtjabdhmkibahlaaCEI
import Derived.Maps.OwnSet
namespace Go.Proofs.Ytjabdhmkibahlaa
open Go.RowKit
set_option linter.unusedVariables false
set_option linter.unusedSimpArgs false

def Few2 (s : List Ag) : Prop := ∀ a ∈ s, a.held.length ≤ 8589934592 ∧ a.arms.length ≤ 8589934592
theorem few2_of {s : List Ag} (ht : totA s ≤ 8589934592) : Few2 s := by
  intro a ha
  induction s with
  | nil => cases ha
  | cons b r ih =>
    rw [totA] at ht
    rcases List.mem_cons.1 ha with rfl | ha
    · omega
    · exact ih (by omega) ha
set_option maxRecDepth 100000 in
set_option maxHeartbeats 4000000 in
theorem Check_big (w : World) (p : Option Addr) (c : Nat) (s : List Ag) (h : AgsR w p c s) (hz : Few2 s) :
    Calls Try.prog 9 #[.slice p s.length c] w fun e w' => e = .returned (.int .i64 (chkI s)) ∧ Below w.heap.size w w' := by
  have hlc := h.len
  have hcm := h.max
  unfold maxLen at hcm
  by_cases hm : 4096 < s.length
  · have HE : Bx (chkI s = 140) := ⟨by
      have : stOk s = false := by simp [stOk]; omega
      simp [chkI, this]⟩
    go_enter Try.func9, Try.ntmps9
    go_wp2
    go_ret
    exact ⟨by rw [HE.out]; rfl, Below.refl _ _⟩
  · have HE0 : Bx (chkI s = if agsF (-1) s then 0 else 140) := ⟨by
      have : stOk s = agsF (-1) s := by simp [stOk]; omega
      simp [chkI, this]⟩
    have HS : Bx (AgsR w p c s) := ⟨h⟩
    have HZ : Bx (Few2 s) := ⟨hz⟩
    clear h hz
    go_enter Try.func9, Try.ntmps9
    go_wp2
    go_loopg [3, 11] (s.length + 1) (fun k v3 v11 wr => ∃ (i : Nat) (x : Int), k = s.length + 1 - i ∧ i ≤ s.length ∧ v3 = .int .i64 x ∧ v11 = .int .i64 i ∧ Bx (agsF x (s.drop i) = agsF (-1) s ∧ Below w.heap.size w wr))
    case atStart => exact ⟨0, -1, by simp, by omega, rfl, rfl, ⟨by simp, Below.refl _ _⟩⟩
    case round =>
      obtain ⟨i, x, hk, hil, rfl, rfl, HR⟩ := hrel
      by_cases hlt : i < s.length
      · obtain ⟨b, o, ap, ac, hp, hc, rfl, hA, hcl⟩ := HS.out.at_ i hlt
        have hbr := HR.out.2
        have hzi := HZ.out s[i] (List.getElem_mem hlt)
        obtain ⟨c0, c1, c2, c3⟩ := hcl wr hbr
        have hd : s.drop i = s[i] :: s.drop (i + 1) := List.drop_eq_getElem_cons hlt
        have HE : Bx ((decide (x < s[i].id) && agOk s[i] && agsF s[i].id (s.drop (i + 1))) = agsF (-1) s) := ⟨by have := HR.out.1; rw [hd, agsF] at this; exact this⟩
        have hA2 := (hA.later hbr)
        clear hd HR hcl hA HS HZ
        generalize s[i] = a at *
        obtain ⟨id, aw, arms, held⟩ := a
        simp only at c0 c1 c2 c3 hzi
        obtain ⟨Y, hY⟩ : ∃ Y, wr.alloc (.cells #[.int .i64 id, .bool aw, .slice ap arms.length ac, .slice hp held.length hc] 53) = Y := ⟨_, rfl⟩
        have hbY : Below wr.heap.size wr Y := by rw [← hY]; exact below1 _ _
        have hbw : Below w.heap.size w Y := hbr.trans (hbY.mono hbr.size)
        have hkY : Y.heap[wr.heap.size]? = some (.cells #[.int .i64 id, .bool aw, .slice ap arms.length ac, .slice hp held.length hc] 53 (0, 0)) := by rw [← hY]; exact World.alloc_heap_new _ _
        have HCY : Bx (∀ X, Below Y.heap.size Y X → X.cell? ⟨wr.heap.size, 0, none⟩ = some (.int .i64 id)) := ⟨fun X hX => by
          have e := (hX.block wr.heap.size (Array.getElem?_eq_some_iff.1 hkY).1).trans hkY
          exact cell_of e rfl⟩
        have d0 : Y.cell? ⟨wr.heap.size, 0, none⟩ = some (.int .i64 id) := cell_of hkY rfl
        have d1 : Y.cell? ⟨wr.heap.size, 1, none⟩ = some (.bool aw) := cell_of hkY rfl
        have d2 : Y.cell? ⟨wr.heap.size, 2, none⟩ = some (.slice ap arms.length ac) := cell_of hkY rfl
        have d3 : Y.cell? ⟨wr.heap.size, 3, none⟩ = some (.slice hp held.length hc) := cell_of hkY rfl
        have HRT : Bx (Calls Try.prog 35 #[.agg #[.int .i64 id, .bool aw, .slice ap arms.length ac, .slice hp held.length hc]] Y fun e w' => e = .returned (.bool (agOk ⟨id, aw, arms, held⟩)) ∧ Below Y.heap.size Y w') := ⟨right_any Y ⟨id, aw, arms, held⟩ ap hp ac hc (hA2.later hbY) (by simp only; omega)⟩
        have HYE : Bx (_ = Y) := ⟨hY⟩
        have HBW : Bx (Below w.heap.size w Y) := ⟨hbw⟩
        rw [← hY] at d0 d1 d2 d3
        clear hY hkY hbY hbw hbr hA2
        by_cases hx : id ≤ x
        · have HF : Bx (chkI s = 140) := ⟨by rw [HE0.out, ← HE.out, decide_eq_false (by simp only; omega)]; simp⟩
          go_wp2
          go_ret
          exact ⟨by rw [HF.out]; rfl, by rw [HYE.out]; exact HBW.out⟩
        · have hxd : decide (x < id) = true := by simp; omega
          by_cases hok : agOk ⟨id, aw, arms, held⟩ = true
          · have HEN : Bx (agsF id (s.drop (i + 1)) = agsF (-1) s) := ⟨by rw [← HE.out]; simp only [hxd, hok, Bool.true_and]⟩
            rw [hok] at HRT
            clear hxd
            go_wp2_with (first | (go_at_call 35; rw [HYE.out]; refine Calls.mono HRT.out ?_; rintro e w2 ⟨rfl, hb2⟩; have HB2 : Bx (Below w.heap.size w w2) := ⟨HBW.out.trans (hb2.mono HBW.out.size)⟩; have e0 := HCY.out w2 hb2; clear hb2))
            go_roundg (s.length + 1 - (i + 1))
            case measure => omega
            case rel => exact ⟨i + 1, id, rfl, by omega, by simp, by simp, ⟨HEN.out, HB2.out⟩⟩
          · have hok' : agOk ⟨id, aw, arms, held⟩ = false := by simpa using hok
            have HF : Bx (chkI s = 140) := ⟨by rw [HE0.out, ← HE.out, hok']; simp⟩
            rw [hok'] at HRT
            clear hxd
            go_wp2_with (first | (go_at_call 35; rw [HYE.out]; refine Calls.mono HRT.out ?_; rintro e w2 ⟨rfl, hb2⟩; have HB2 : Bx (Below w.heap.size w w2) := ⟨HBW.out.trans (hb2.mono HBW.out.size)⟩; have e0 := HCY.out w2 hb2; clear hb2))
            go_ret
            exact ⟨by rw [HF.out]; rfl, HB2.out⟩
      · have hie : i = s.length := by omega
        subst hie
        have HF : Bx (chkI s = 0 ∧ Below w.heap.size w wr) := ⟨by rw [HE0.out, ← HR.out.1]; simp [agsF], HR.out.2⟩
        clear HR
        go_wp2
        go_ret
        exact ⟨by rw [HF.out.1]; rfl, HF.out.2⟩
end Go.Proofs.Ytjabdhmkibahlaa
namespace Go.Proofs.Ytjabdhmkibahlaa
open Go.RowKit Go.MapKept Go.ChangeMaps Go.WideShapes
set_option linter.unusedVariables false
set_option linter.unusedSimpArgs false

section
variable {w : World} {ops : Array Oper} {rest : List Oper} {o : Oper} {a : Act} {Q : Exit → Act → World → Prop}
theorem lenI (hg : o.guard = none) (m : Operand) (t e : TypeId) (hop : o.op = Op.call { callee := Callee.builtin Builtin.len, args := #[m], argTypes := #[t] }) (ht : Try.prog.underlying t = some (.map 3 e)) (mb n : Nat) (z : Value) (M : Int → Value) (hs : Int → Bool) (hz : ∀ w, (zeroValue e).run Try.prog w = .ok z w)
    (hm : a.eval m = .map (some mb)) (h : MpI w mb n z M hs) (hK : ∀ q : Nat, q ≤ n → (0 < q → ∃ c, I64 c ∧ hs c = true) → ((∃ c, I64 c ∧ hs c = true) → 0 < q) → wpList Try.prog ops Q rest (a.put o.dst (.int .i64 q)) w) :
    wpList Try.prog ops Q (o :: rest) a w := by
  obtain ⟨q, h1, h2, h3, h4⟩ := h.len ht hz o.type
  refine wpList_plain hg fun K' hK' => ?_
  unfold Oper.wp
  simp [execOp, hop, resolve, invoke, builtin, hm, h1, Result.andThen]
  exact hK' _ _ (hK q h2 h3 h4)
end
/-! ### plain facts for find -/
theorem ho_some (f : Int → Ag) (A : Int → List Int) : ∀ (ids : List Int) (c : Int), (hoD f A ids c).isSome = true → ∃ id ∈ ids, c ∈ (f id).held := by
  have step : ∀ (id : Int) (l : List Int) (H : Int → Option Int) (c : Int), (hoHeld A id H l c).isSome = true → (H c).isSome = true ∨ c ∈ l := by
    intro id l
    induction l with
    | nil => intro H c h; exact .inl h
    | cons x r ih =>
      intro H c h
      rcases ih (hoStep A id H x) c h with h | h
      · unfold hoStep at h
        split at h
        · by_cases e : c = x
          · exact .inr (by rw [e]; exact List.mem_cons_self)
          · rw [upd_other _ _ e] at h; exact .inl h
        · exact .inl h
      · exact .inr (List.mem_cons_of_mem _ h)
  have key : ∀ (ids : List Int) (H : Int → Option Int) (c : Int), (hoF f A H ids c).isSome = true → (H c).isSome = true ∨ ∃ id ∈ ids, c ∈ (f id).held := by
    intro ids
    induction ids with
    | nil => intro H c h; exact .inl h
    | cons x r ih =>
      intro H c h
      rcases ih (hoHeld A x H (f x).held) c h with h | ⟨id, h1, h2⟩
      · rcases step x _ H c h with h | h
        · exact .inl h
        · exact .inr ⟨x, List.mem_cons_self, h⟩
      · exact .inr ⟨id, List.mem_cons_of_mem _ h1, h2⟩
  intro ids c h
  rcases key ids _ c h with h | h
  · cases h
  · exact h
theorem who_held {w : World} {f : Int → Ag} {M : Int → Value} (h : WhoV w f M) {id c : Int} (hc : c ∈ (f id).held) : I64 c := by
  obtain ⟨_, _, _, _, _, hA⟩ := h id
  obtain ⟨i, hi, rfl⟩ := List.mem_iff_getElem.1 hc
  obtain ⟨_, _, _, h1, _⟩ := hA.held.at_ i hi
  exact h1
theorem ou_mem (H : Int → Option Int) (B : Hd → List Int) (s : List Ag) (k : Int) (h : ouD H B s k ≠ none) : k ∈ s.map (·.id) := by
  have key : ∀ (s : List Ag) (O : Int → Option Lk), s.foldl (ouStep H B) O k ≠ none → O k ≠ none ∨ k ∈ s.map (·.id) := by
    intro s
    induction s with
    | nil => intro O h; exact .inl h
    | cons a r ih =>
      intro O h
      rcases ih _ h with h | h
      · unfold ouStep at h
        cases hk : lkD a (wk1 H B a.id) with
        | some l =>
          rw [hk] at h
          by_cases e : k = a.id
          · exact .inr (by rw [e]; exact List.mem_cons_self)
          · simp only at h
            rw [upd_other _ _ e] at h; exact .inl h
        | none =>
          rw [hk] at h
          exact .inl h
      · exact .inr (List.mem_cons_of_mem _ h)
  rcases key s _ h with h | h
  · exact absurd rfl h
  · exact h
theorem who_few {s : List Ag} (hf : Few2 s) (k : Int) : (whoD s k).held.length ≤ 8589934592 := by
  have key : ∀ (s : List Ag) (g : Int → Ag), (∀ k, (g k).held.length ≤ 8589934592) → (∀ a ∈ s, a.held.length ≤ 8589934592) → ∀ k, (s.foldl (fun f a => upd f a.id a) g k).held.length ≤ 8589934592 := by
    intro s
    induction s with
    | nil => intro g hg _ k; exact hg k
    | cons a r ih =>
      intro g hg ha k
      refine ih _ (fun d => ?_) (fun b hb => ha b (List.mem_cons_of_mem _ hb)) k
      show (upd g a.id a d).held.length ≤ 8589934592
      by_cases e : d = a.id
      · subst e; rw [upd_same]; exact ha a List.mem_cons_self
      · rw [upd_other _ _ e]; exact hg d
  exact key s _ (fun k => by simp [zA]) (fun a ha => (hf a ha).1) k
/-- a level that is being put among the ways -/
structure PtY (k : Nat) (Y : Int → Option Wy) (N : Int → Option Lk) (left : Int → Bool) (sought : Int) (Yc : Int → Option Wy) : Prop where
  yes : ∀ id l, N id = some l → left id = false → Yc id = some ((k : Int), l)
  no : ∀ id, N id = none → Yc id = Y id
  not : ∀ id, left id = true → Yc id = Y id
  so : N sought ≠ none → left sought = true
theorem PtY.start (k : Nat) (Y : Int → Option Wy) (N : Int → Option Lk) (sought : Int) : PtY k Y N (fun c => (N c).isSome) sought Y :=
  ⟨fun id l h1 h2 => by simp [h1] at h2, fun _ _ => rfl, fun _ _ => rfl, fun h => by cases hn : N sought with
    | none => exact absurd hn h
    | some l => rfl⟩
theorem PtY.put {k : Nat} {Y : Int → Option Wy} {N : Int → Option Lk} {left : Int → Bool} {sought : Int} {Yc : Int → Option Wy} (h : PtY k Y N left sought Yc) {c : Int} {l : Lk} (hc : N c = some l) (hne : c ≠ sought) : PtY k Y N (fun d => left d && !(d == c)) sought (upd Yc c (some ((k : Int), l))) := by
  refine ⟨fun id l' h1 h2 => ?_, fun id h1 => ?_, fun id h1 => ?_, fun h1 => ?_⟩
  · by_cases e : id = c
    · subst e; rw [hc] at h1; cases h1; rw [upd_same]
    · rw [upd_other _ _ e]
      have : (id == c) = false := by simpa using e
      rw [this] at h2
      exact h.yes id l' h1 (by simpa using h2)
  · by_cases e : id = c
    · subst e; rw [hc] at h1; cases h1
    · rw [upd_other _ _ e]; exact h.no id h1
  · by_cases e : id = c
    · subst e; simp at h1
    · rw [upd_other _ _ e]
      simp only [Bool.and_eq_true] at h1
      exact h.not id h1.1
  · have := h.so h1
    have e : (sought == c) = false := by simpa using fun e => hne e.symm
    simp [this, e]
theorem PtY.done {k : Nat} {Y : Int → Option Wy} {N : Int → Option Lk} {left : Int → Bool} {sought : Int} {Yc : Int → Option Wy} (h : PtY k Y N left sought Yc) (hl : ∀ c, I64 c → left c = false) (h64 : ∀ c, N c ≠ none → I64 c) : Yc = wyN k Y N ∧ N sought = none := by
  constructor
  · funext id
    unfold wyN
    cases hn : N id with
    | none => exact h.no id hn
    | some l => exact h.yes id l hn (hl id (h64 id (by rw [hn]; simp)))
  · cases hn : N sought with
    | none => rfl
    | some l =>
      have h1 : N sought ≠ none := by rw [hn]; simp
      have := h.so h1
      rw [hl _ (h64 _ h1)] at this
      cases this
end Go.Proofs.Ytjabdhmkibahlaa
