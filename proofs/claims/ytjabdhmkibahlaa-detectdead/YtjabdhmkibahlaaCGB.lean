import Derived.Test.YtjabdhmkibahlaaCGS
namespace Go.Proofs.Ytjabdhmkibahlaa
open Go.RowKit
set_option linter.unusedVariables false
set_option linter.unusedSimpArgs false

/-! ### who there is -/
def wA : Ag := ⟨-1, false, [⟨1, true⟩, ⟨2, false⟩], []⟩
def zA : Ag := ⟨0, false, [], []⟩
def zV : Value := .agg #[.int .i64 0, .bool false, .slice none 0 0, .slice none 0 0]
def who0 (k : Int) : Ag := if k = -1 then wA else zA
def whoI (s : List Ag) : Int → Ag := s.foldl (fun f a => upd f a.id a) who0
def hasI (s : List Ag) : Int → Bool := s.foldl (fun f a => upd f a.id true) (fun k => k == -1)
theorem whoI_snoc (s : List Ag) (a : Ag) : whoI (s ++ [a]) = upd (whoI s) a.id a := by simp [whoI, List.foldl_append]
theorem hasI_snoc (s : List Ag) (a : Ag) : hasI (s ++ [a]) = upd (hasI s) a.id true := by simp [hasI, List.foldl_append]
/-- the values of the map, to be read in every later world -/
def WhoV (w : World) (f : Int → Ag) (M : Int → Value) : Prop := ∀ k, ∃ ap ac hp hc, M k = agV (f k) ap ac hp hc ∧ AgR w (f k) ap ac hp hc
theorem WhoV.later {w w' : World} {f : Int → Ag} {M : Int → Value} (h : WhoV w f M) (hb : Below w.heap.size w w') : WhoV w' f M := fun k => by
  obtain ⟨ap, ac, hp, hc, e, h1⟩ := h k
  exact ⟨ap, ac, hp, hc, e, h1.later hb⟩
/-- the same, under way: the world's arms lie in block g -/
def WhoU (w : World) (g : Nat) (f : Int → Ag) (M : Int → Value) : Prop := ∀ k, ∃ ap ac hp hc, M k = agV (f k) ap ac hp hc ∧ (AgR w (f k) ap ac hp hc ∨ f k = wA ∧ ap = some ⟨g, 0, none⟩ ∧ ac = 2 ∧ hp = none ∧ hc = 0)
theorem WhoU.upd {w : World} {g : Nat} {f : Int → Ag} {M : Int → Value} (h : WhoU w g f M) (k : Int) (a : Ag) {ap hp : Option Addr} {ac hc : Nat} (ha : AgR w a ap ac hp hc) : WhoU w g (upd f k a) (upd M k (agV a ap ac hp hc)) := fun d => by
  by_cases e : d = k
  · subst e
    rw [upd_same, upd_same]
    exact ⟨ap, ac, hp, hc, rfl, .inl ha⟩
  · rw [upd_other _ _ e, upd_other _ _ e]
    exact h d
theorem zA_r (w : World) : AgR w zA none 0 none 0 := ⟨⟨by simp [zA], by simp [zA]⟩, ⟨by simp [zA], by simp [maxLen], fun i hi => by simp [zA] at hi⟩, ⟨by simp [zA], by simp [maxLen], fun i hi => by simp [zA] at hi⟩⟩
theorem wA_r {w : World} {g : Nat} (h : w.heap[g]? = some (.cells #[.int .i64 1, .bool true, .int .i64 2, .bool false] 58 (0, 0))) : AgR w wA (some ⟨g, 0, none⟩) 2 none 0 := by
  refine ⟨⟨by simp [wA], by simp [wA]⟩, ⟨by simp [wA], by simp [maxLen], fun i hi => ?_⟩, ⟨by simp [wA], by simp [maxLen], fun i hi => by simp [wA] at hi⟩⟩
  have hl := (Array.getElem?_eq_some_iff.1 h).1
  match i, (show i < 2 from hi) with
  | 0, _ => exact ⟨g, 0, rfl, ⟨by simp [wA], by simp [wA]⟩, fun X hX => by
      have e := (hX.block g hl).trans h
      exact ⟨cell_of e rfl, cell_of e rfl⟩⟩
  | 1, _ => exact ⟨g, 0, rfl, ⟨by simp [wA], by simp [wA]⟩, fun X hX => by
      have e := (hX.block g hl).trans h
      exact ⟨cell_of e rfl, cell_of e rfl⟩⟩
theorem WhoU.done {w W : World} {g : Nat} {f : Int → Ag} {M : Int → Value} (hu : WhoU w g f M) (hb : Below w.heap.size w W) (h : W.heap[g]? = some (.cells #[.int .i64 1, .bool true, .int .i64 2, .bool false] 58 (0, 0))) : WhoV W f M := fun k => by
  obtain ⟨ap, ac, hp, hc, e, h1 | ⟨h1, rfl, rfl, rfl, rfl⟩⟩ := hu k
  · exact ⟨ap, ac, hp, hc, e, h1.later hb⟩
  · exact ⟨_, _, _, _, e, by rw [h1]; exact wA_r h⟩
theorem who0_u (w : World) (g : Nat) : WhoU w g who0 (upd (fun _ => zV) (-1) (.agg #[.int .i64 (-1), .bool false, .slice (some ⟨g, 0, none⟩) 2 2, .slice none 0 0])) := fun k => by
  by_cases e : k = -1
  · subst e
    rw [upd_same]
    exact ⟨_, _, _, _, rfl, .inr ⟨rfl, rfl, rfl, rfl, rfl⟩⟩
  · rw [upd_other _ _ e, show who0 k = zA from if_neg e]
    exact ⟨none, 0, none, 0, rfl, .inl (zA_r w)⟩
def IdPost (w : World) (s : List Ag) (e : Ending) (w' : World) : Prop := ∃ mb n M, e = .returned (.map (some mb)) ∧ MpI w' mb n zV M (hasI s) ∧ WhoV w' (whoI s) M ∧ n ≤ s.length + 1 ∧ w.heap.size ≤ mb ∧ Below w.heap.size w w'

set_option maxRecDepth 100000 in
set_option maxHeartbeats 8000000 in
theorem byId_any (w : World) (p : Option Addr) (c : Nat) (s : List Ag) (h : AgsR w p c s) (hs4 : s.length ≤ 4096) : Calls Try.prog 37 #[.slice p s.length c] w (IdPost w s) := by
  have hlc := h.len
  have hcm := h.max
  unfold maxLen at hcm
  have HS : Bx (AgsR w p c s) := ⟨h⟩
  have HS4 : Bx (s.length ≤ 4096) := ⟨hs4⟩
  have hmm := @run_makeMap Try.prog
  obtain ⟨W, hW⟩ : ∃ W, (w.alloc (.map #[] 0)).alloc (.cells #[.int .i64 1, .bool true, .int .i64 2, .bool false] 58) = W := ⟨_, rfl⟩
  have hb : Below w.heap.size w W := by rw [← hW]; exact two_new _ _ _
  have hbk : W.heap[w.heap.size + 1]? = some (.cells #[.int .i64 1, .bool true, .int .i64 2, .bool false] 58 (0, 0)) := by
    have := World.alloc_heap_new (w.alloc (.map #[] 0)) (.cells #[.int .i64 1, .bool true, .int .i64 2, .bool false] 58)
    rw [World.size_alloc, hW] at this
    exact this
  have hm0 : MpI W w.heap.size 0 zV (fun _ => zV) (fun _ => false) := by
    rw [← hW]
    exact (mp_new w zV).below (below1 _ _)
  obtain ⟨W1, hput, hm1, hg1⟩ := hm0.put Try.underlying61 (c := -1) ⟨by omega, by omega⟩ (by unfold maxLen; omega) (.agg #[.int .i64 (-1), .bool false, .slice (some ⟨w.heap.size + 1, 0, none⟩) 2 2, .slice none 0 0])
  have hbk1 : W1.heap[w.heap.size + 1]? = some (.cells #[.int .i64 1, .bool true, .int .i64 2, .bool false] 58 (0, 0)) := (hg1.block _ (Array.getElem?_eq_some_iff.1 hbk).1 (by simp)).trans hbk
  have HM : Bx (MpI W1 w.heap.size 1 zV (upd (fun _ => zV) (-1) (.agg #[.int .i64 (-1), .bool false, .slice (some ⟨w.heap.size + 1, 0, none⟩) 2 2, .slice none 0 0])) (hasI []) ∧ WhoU w (w.heap.size + 1) (whoI []) (upd (fun _ => zV) (-1) (.agg #[.int .i64 (-1), .bool false, .slice (some ⟨w.heap.size + 1, 0, none⟩) 2 2, .slice none 0 0])) ∧ Below w.heap.size w W1 ∧ W1.heap[w.heap.size + 1]? = some (.cells #[.int .i64 1, .bool true, .int .i64 2, .bool false] 58 (0, 0))) := ⟨hm1.ext (fun _ => rfl) (fun k => by
      show (k == -1) = upd (fun _ => false) (-1) true k
      by_cases e : k = -1
      · subst e; rw [upd_same]; rfl
      · rw [upd_other _ _ e]; simpa using e), who0_u w (w.heap.size + 1), hb.grown hg1 hb.size (fun r e => by cases e; omega), hbk1⟩
  rw [← hW] at hput
  clear h hW hb hbk hbk1 hm0 hm1 hg1
  go_enter Try.func37, Try.ntmps37
  go_wp2
  clear hmm hput
  go_loopg [14] (s.length + 1) (fun k v wr => ∃ i n M, k = s.length + 1 - i ∧ i ≤ s.length ∧ v = .int .i64 (i : Nat) ∧ Bx (n ≤ i + 1 ∧ MpI wr w.heap.size n zV M (hasI (s.take i)) ∧ WhoU w (w.heap.size + 1) (whoI (s.take i)) M ∧ Below w.heap.size w wr ∧ wr.heap[w.heap.size + 1]? = some (.cells #[.int .i64 1, .bool true, .int .i64 2, .bool false] 58 (0, 0))))
  case atStart => exact ⟨0, 1, _, by simp, by omega, rfl, ⟨Nat.le_refl _, HM.out⟩⟩
  case round =>
    obtain ⟨i, n, M, hk, hil, rfl, HR⟩ := hrel
    clear HM
    by_cases hlt : i < s.length
    · obtain ⟨b, o, ap, ac, hp, hc, rfl, hA, hcl⟩ := HS.out.at_ i hlt
      have hbr := HR.out.2.2.2.1
      obtain ⟨c0, c1, c2, c3⟩ := hcl wr hbr
      have HT : Bx (s.take (i + 1) = s.take i ++ [s[i]]) := ⟨List.take_succ_eq_append_getElem hlt⟩
      have HAg : Bx (AgR w s[i] ap ac hp hc) := ⟨hA⟩
      clear hcl hA HS
      generalize s[i] = a at *
      generalize s.take i = pre at *
      obtain ⟨id, aw, arms, held⟩ := a
      simp only at c0 c1 c2 c3
      obtain ⟨X, hX⟩ : ∃ X, wr.alloc (.cells #[.int .i64 id, .bool aw, .slice ap arms.length ac, .slice hp held.length hc] 53) = X := ⟨_, rfl⟩
      have hbX : Below wr.heap.size wr X := by rw [← hX]; exact below1 _ _
      have hkX : X.heap[wr.heap.size]? = some (.cells #[.int .i64 id, .bool aw, .slice ap arms.length ac, .slice hp held.length hc] 53 (0, 0)) := by rw [← hX]; exact World.alloc_heap_new _ _
      have hbw : Below w.heap.size w X := hbr.trans (hbX.mono hbr.size)
      have hn := HR.out.1
      obtain ⟨W2, hput, hm2, hg2⟩ := (HR.out.2.1.below hbX).put Try.underlying61 (c := id) HAg.out.id (by unfold maxLen; have := HS4.out; omega) (agV ⟨id, aw, arms, held⟩ ap ac hp hc)
      have d0 : X.cell? ⟨wr.heap.size, 0, none⟩ = some (.int .i64 id) := cell_of hkX rfl
      have d1 : X.cell? ⟨wr.heap.size, 1, none⟩ = some (.bool aw) := cell_of hkX rfl
      have d2 : X.cell? ⟨wr.heap.size, 2, none⟩ = some (.slice ap arms.length ac) := cell_of hkX rfl
      have d3 : X.cell? ⟨wr.heap.size, 3, none⟩ = some (.slice hp held.length hc) := cell_of hkX rfl
      have HF : Bx (n + 1 ≤ i + 1 + 1 ∧ MpI W2 w.heap.size (n + 1) zV (upd M id (agV ⟨id, aw, arms, held⟩ ap ac hp hc)) (hasI (s.take (i + 1))) ∧ WhoU w (w.heap.size + 1) (whoI (s.take (i + 1))) (upd M id (agV ⟨id, aw, arms, held⟩ ap ac hp hc)) ∧ Below w.heap.size w W2 ∧ W2.heap[w.heap.size + 1]? = some (.cells #[.int .i64 1, .bool true, .int .i64 2, .bool false] 58 (0, 0))) := by
        have hg := HR.out.2.2.2.2
        have hgl := (Array.getElem?_eq_some_iff.1 hg).1
        refine ⟨by omega, ?_, ?_, hbw.grown hg2 hbw.size (fun r e => by cases e; omega), ?_⟩
        · rw [HT.out, hasI_snoc]; exact hm2
        · rw [HT.out, whoI_snoc]; exact HR.out.2.2.1.upd id ⟨id, aw, arms, held⟩ HAg.out
        · exact (hg2.block _ (Nat.lt_of_lt_of_le hgl hbX.size) (by simp)).trans ((hbX.block _ hgl).trans hg)
      simp only [agV] at hput
      rw [← hX] at hput d0 d1 d2 d3
      clear hX hbX hkX hbw HR hm2 hg2 hbr HAg HT
      go_wp2
      go_roundg (s.length + 1 - (i + 1))
      case measure => omega
      case rel => exact ⟨i + 1, n + 1, _, rfl, by omega, by simp, HF⟩
    · have hie : i = s.length := by omega
      subst hie
      rw [List.take_length] at HR
      go_wp2
      go_ret
      exact ⟨_, n, M, rfl, HR.out.2.1, HR.out.2.2.1.done HR.out.2.2.2.1 HR.out.2.2.2.2, HR.out.1, Nat.le_refl _, HR.out.2.2.2.1⟩
end Go.Proofs.Ytjabdhmkibahlaa
