import Derived.Test.YtjabdhmkibahlaaCEK
import Derived.Test.YtjabdhmkibahlaaCGN
import Derived.Test.YtjabdhmkibahlaaCGV
namespace Go.Proofs.Ytjabdhmkibahlaa
open Go.RowKit Go.MapKept Go.ChangeMaps Go.WideShapes
set_option linter.unusedVariables false
set_option linter.unusedSimpArgs false

def ouStep (H : Int → Option Int) (B : Hd → List Int) (O : Int → Option Lk) (a : Ag) : Int → Option Lk := match lkD a (wk1 H B a.id) with
  | some l => upd O a.id (some l)
  | none => O
def ouD (H : Int → Option Int) (B : Hd → List Int) (s : List Ag) : Int → Option Lk := s.foldl (ouStep H B) (fun _ => none)
theorem ouD_snoc (H : Int → Option Int) (B : Hd → List Int) (s : List Ag) (a : Ag) : ouD H B (s ++ [a]) = ouStep H B (ouD H B s) a := by simp [ouD, List.foldl_append]
theorem ou_fin {w1 Y Z w6 : World} {om n : Nat} {O : Int → Option Lk} (ho : w1.heap.size = om) (h1 : Below w1.heap.size w1 Y) (h2 : Below Y.heap.size Y Z) (hm : LkM w6 om n O) (hg : Z.grownBy w6 (some om)) : Bx (LkM w6 om n O ∧ Below om w1 w6) := by
  have h3 := h1.trans (h2.mono h1.size)
  have h4 := h3.grown hg h3.size (fun r e => by cases e; omega)
  rw [ho] at h4
  exact ⟨hm, h4⟩
set_option maxRecDepth 100000 in
set_option maxHeartbeats 4000000 in
theorem outset_any (w : World) (f : Int → Ag) (wm nw am na ym : Nat) (M V : Int → Value) (hw : Int → Bool) (A : Int → List Int) (hs : SeR w f wm nw M hw am na V A) (p : Option Addr) (c : Nat) (s : List Ag) (h : AgsR w p c s) (hl : s.length ≤ 4096) (ht : totA s ≤ 8589934592) :
    Calls Try.prog 65 #[seV wm am ym, .slice p s.length c] w fun e w' => ∃ om n, e = .returned (.map (some om)) ∧ LkM w' om n (ouD (hoD f A (awD s)) (haD s) s) ∧ n ≤ s.length ∧ w.heap.size ≤ om ∧ Below w.heap.size w w' := by
  have hlc := h.len
  have hcm := h.max
  unfold maxLen at hcm
  have hmm := @run_makeMap Try.prog
  have hmf : ∀ (fn : Fn) (first cap : Array Value) (w : World), (Instr.makeFunc fn first cap).run Try.prog w = .ok (.func fn first cap) w := fun fn first cap w => rfl
  obtain ⟨W, hW⟩ : ∃ W, w.alloc (.cells #[.map (some wm), .map (some am), .map (some ym)] 100) = W := ⟨_, rfl⟩
  have hbW : Below w.heap.size w W := by rw [← hW]; exact below1 _ _
  have hkW : W.heap[w.heap.size]? = some (.cells #[.map (some wm), .map (some am), .map (some ym)] 100 (0, 0)) := by rw [← hW]; exact World.alloc_heap_new _ _
  have HOC : Bx (OuC W wm am ym w.heap.size (.slice p s.length c) (awD s) (hoD f A (awD s)) (haD s)) := ⟨⟨fun X hX => by
    have e := (hX.block _ (Array.getElem?_eq_some_iff.1 hkW).1).trans hkW
    exact ⟨cell_of e rfl, cell_of e rfl, cell_of e rfl⟩, fun X hX => awake_any X p c s (h.later (hbW.trans (hX.mono hbW.size))) hl, fun X hX q d hq => (holders_any X f wm nw am na ym M V hw A (hs.below (hbW.trans (hX.mono hbW.size))) q d _ hq (Nat.le_trans (awD_len s) hl)).mono (fun e w' ⟨mb, n, h1, h2, _, _, h3⟩ => ⟨mb, n, h1, h2, h3⟩), fun X hX => (byHand_any X p c s (h.later (hbW.trans (hX.mono hbW.size))) ht).mono (fun e w' ⟨n, _, h1, m, V, own, _, h3, _, h4, h5⟩ => ⟨_, h1, ⟨_, m, V, own, h3, h4⟩, h5⟩)⟩⟩
  have HS : Bx (AgsR w p c s ∧ Below w.heap.size w W) := ⟨h, hbW⟩
  have HWE : Bx (_ = W) := ⟨hW⟩
  clear hs h hW hbW hkW
  generalize awD s = aw at *
  generalize hoD f A aw = H at *
  generalize haD s = B at *
  simp only [seV]
  go_enter Try.func65, Try.ntmps65
  go_wp2
  rw [HWE.out]
  refine ou_region (b0 := w.heap.size) (sl := .slice p s.length c) (aw := aw) (H := H) (B := B) (by kernel_rfl) HOC.out ?_
  intro b5 b6 hm nh hb v14 w1 hb1 hk5 hk6 hho hhr hl5 hl6
  have I1 : Bx (Below W.heap.size W w1 ∧ w1.heap[b5]? = some (.cells #[.map (some hm)] 104 (0, 0)) ∧ w1.heap[b6]? = some (.cells #[.map (some hb)] 115 (0, 0)) ∧ HoM w1 hm nh H ∧ HaR w1 hb B) := ⟨hb1, hk5, hk6, hho, hhr⟩
  clear hb1 hk5 hk6 hho hhr HOC hl5 hl6
  simp only [ouFr]
  obtain ⟨W2, hW2⟩ : ∃ W2, w1.alloc (.map #[] 0) = W2 := ⟨_, rfl⟩
  have hb2 : Below w1.heap.size w1 W2 := by rw [← hW2]; exact below1 _ _
  have HI : Bx (LkM W2 w1.heap.size 0 (ouD H B []) ∧ Below w1.heap.size w1 W2) := ⟨by rw [← hW2]; exact lm_new w1, hb2⟩
  have HW2 : Bx (_ = W2) := ⟨hW2⟩
  obtain ⟨om, hom⟩ : ∃ om, w1.heap.size = om := ⟨_, rfl⟩
  have HOM : Bx (w1.heap.size = om) := ⟨hom⟩
  rw [hom] at HI
  clear hb2 hW2 hom
  go_wp2
  rw [HW2.out, HOM.out]
  clear hmm
  go_loopg [21] (s.length + 1) (fun g v wr => ∃ i n : Nat, g = s.length + 1 - i ∧ i ≤ s.length ∧ v = .int .i64 (i : Nat) ∧ Bx (n ≤ i ∧ LkM wr om n (ouD H B (s.take i)) ∧ Below om w1 wr))
  case atStart => exact ⟨0, 0, by simp, by omega, rfl, ⟨Nat.le_refl _, HI.out⟩⟩
  case round =>
    obtain ⟨i, n, hg, hil, rfl, HR⟩ := hrel
    clear HI HW2
    by_cases hlt : i < s.length
    · obtain ⟨b, o, ap, ac, hp, hc, rfl, hA, hcl⟩ := HS.out.1.at_ i hlt
      have hbr : Below w1.heap.size w1 wr := by rw [HOM.out]; exact HR.out.2.2
      have hbw : Below w.heap.size w wr := HS.out.2.trans ((I1.out.1.trans (hbr.mono I1.out.1.size)).mono HS.out.2.size)
      obtain ⟨c0, c1, c2, c3⟩ := hcl wr hbw
      have HTK : Bx (ouD H B (s.take (i + 1)) = ouStep H B (ouD H B (s.take i)) s[i]) := ⟨by rw [List.take_succ_eq_append_getElem hlt, ouD_snoc]⟩
      have hid := hA.id
      obtain ⟨Y, hY⟩ : ∃ Y, wr.alloc (.cells #[.int .i64 s[i].id, .bool s[i].awake, .slice ap s[i].arms.length ac, .slice hp s[i].held.length hc] 53) = Y := ⟨_, rfl⟩
      have hbY : Below wr.heap.size wr Y := by rw [← hY]; exact below1 _ _
      have hkY : Y.heap[wr.heap.size]? = some (.cells #[.int .i64 s[i].id, .bool s[i].awake, .slice ap s[i].arms.length ac, .slice hp s[i].held.length hc] 53 (0, 0)) := by rw [← hY]; exact World.alloc_heap_new _ _
      have hb1Y : Below w1.heap.size w1 Y := hbr.trans (hbY.mono hbr.size)
      have hbwY : Below w.heap.size w Y := hbw.trans (hbY.mono hbw.size)
      have HLK : Bx (Calls Try.prog 77 #[agV s[i] ap ac hp hc, .func (.func 78) #[] #[.pointer (some ⟨b5, 0, none⟩), .pointer (some ⟨b6, 0, none⟩), .pointer (some ⟨wr.heap.size, 0, none⟩)]] Y fun e w' => e = .returned (lT (lkD s[i] (wk1 H B s[i].id))) ∧ Below Y.heap.size Y w') := ⟨link_any Y s[i] ap hp ac hc (hA.later hbwY) _ _ _ (enters_of Try.func78 (by kernel_rfl) rfl) (fun X hX x hx => by
        obtain ⟨q, hq, rfl⟩ := List.mem_iff_getElem.1 hx
        obtain ⟨_, _, _, hx64, _⟩ := hA.arms.at_ q hq
        have h1X := hb1Y.trans (hX.mono hb1Y.size)
        exact outset1_any X _ hx64 b5 b6 wr.heap.size hm nh hb H B s[i].id _ _ _ ((h1X.block _ (Array.getElem?_eq_some_iff.1 I1.out.2.1).1).trans I1.out.2.1) ((h1X.block _ (Array.getElem?_eq_some_iff.1 I1.out.2.2.1).1).trans I1.out.2.2.1) ((hX.block _ (Array.getElem?_eq_some_iff.1 hkY).1).trans hkY) (MpI.below I1.out.2.2.2.1 h1X) (I1.out.2.2.2.2.below h1X))⟩
      have HC0 : Bx (∀ X, Below Y.heap.size Y X → X.cell? ⟨wr.heap.size, 0, none⟩ = some (.int .i64 s[i].id)) := ⟨fun X hX => cell_of ((hX.block _ (Array.getElem?_eq_some_iff.1 hkY).1).trans hkY) rfl⟩
      have d0 : Y.cell? ⟨wr.heap.size, 0, none⟩ = some (.int .i64 s[i].id) := cell_of hkY rfl
      have d1 : Y.cell? ⟨wr.heap.size, 1, none⟩ = some (.bool s[i].awake) := cell_of hkY rfl
      have d2 : Y.cell? ⟨wr.heap.size, 2, none⟩ = some (.slice ap s[i].arms.length ac) := cell_of hkY rfl
      have d3 : Y.cell? ⟨wr.heap.size, 3, none⟩ = some (.slice hp s[i].held.length hc) := cell_of hkY rfl
      have HO : Bx (n ≤ i ∧ LkM Y om n (ouD H B (s.take i)) ∧ Below w1.heap.size w1 Y ∧ i ≤ 4096) := ⟨HR.out.1, MpI.below HR.out.2.1 hbY, hb1Y, by omega⟩
      have HYE : Bx (_ = Y) := ⟨hY⟩
      simp only [agV] at HLK
      rw [← hY] at d0 d1 d2 d3
      clear hcl hA hY hbY hkY hb1Y hbwY hbw hbr HR
      generalize s[i] = a at *
      generalize ouD H B (s.take i) = O at *
      cases hlk : lkD a (wk1 H B a.id) with
      | none =>
        have HT2 : Bx (ouD H B (s.take (i + 1)) = O) := ⟨by rw [HTK.out, ouStep, hlk]⟩
        rw [hlk] at HLK
        simp only [lT, lkV, lk0, Option.getD_none, Option.isSome_none] at HLK
        clear hlk HTK
        go_wp2_with (first | (go_at_call 77; rw [HYE.out]; refine Calls.mono HLK.out ?_; rintro e w3 ⟨rfl, hb3⟩; have B3 : Bx (Below Y.heap.size Y w3) := ⟨hb3⟩; clear hb3))
        have HZ : Bx (∀ ob, LkM (w3.alloc ob) om n O ∧ Below om w1 (w3.alloc ob)) := ⟨fun ob => by
          have hz := (below1 w3 ob)
          have hy3 := B3.out.trans (hz.mono B3.out.size)
          refine ⟨MpI.below HO.out.2.1 hy3, ?_⟩
          have := HO.out.2.2.1.trans (hy3.mono HO.out.2.2.1.size)
          rw [HOM.out] at this
          exact this⟩
        go_roundg (s.length + 1 - (i + 1))
        case measure => omega
        case rel => exact ⟨i + 1, n, rfl, by omega, by simp, ⟨by have := HO.out.1; omega, by rw [HT2.out]; exact (HZ.out _).1, (HZ.out _).2⟩⟩
      | some l =>
        have HT2 : Bx (ouD H B (s.take (i + 1)) = upd O a.id (some l)) := ⟨by rw [HTK.out, ouStep, hlk]⟩
        rw [hlk] at HLK
        simp only [lT, lkV, lk0, Option.getD_some, Option.isSome_some] at HLK
        clear hlk HTK
        go_wp2_with (first | (go_at_call 77; rw [HYE.out]; refine Calls.mono HLK.out ?_; rintro e w3 ⟨rfl, hb3⟩; obtain ⟨Z, hZ⟩ : ∃ Z, w3.alloc (.cells #[.int .i64 l.waker, .int .i64 l.woken, .int .i64 l.chan] 24) = Z := ⟨_, rfl⟩; have hbZ : Below Y.heap.size Y Z := (by rw [← hZ]; exact hb3.trans ((below1 _ _).mono hb3.size)); have e0 := HC0.out Z hbZ; have hkZ : Z.heap[w3.heap.size]? = some (.cells #[.int .i64 l.waker, .int .i64 l.woken, .int .i64 l.chan] 24 (0, 0)) := (by rw [← hZ]; exact World.alloc_heap_new _ _); have e1 : Z.cell? ⟨w3.heap.size, 0, none⟩ = some (.int .i64 l.waker) := cell_of hkZ rfl; have e2 : Z.cell? ⟨w3.heap.size, 1, none⟩ = some (.int .i64 l.woken) := cell_of hkZ rfl; have e3 : Z.cell? ⟨w3.heap.size, 2, none⟩ = some (.int .i64 l.chan) := cell_of hkZ rfl; obtain ⟨w6, hput, hm6, hg6⟩ := LkM.put2 (MpI.below HO.out.2.1 hbZ) hid (by unfold maxLen; have := HO.out; omega) l; have HF : Bx (LkM w6 om (n + 1) (upd O a.id (some l)) ∧ Below om w1 w6) := ou_fin HOM.out HO.out.2.2.1 hbZ hm6 hg6; rw [← hZ] at e0 e1 e2 e3 hput; clear hZ hbZ hkZ hm6 hg6 hb3))
        go_roundg (s.length + 1 - (i + 1))
        case measure => omega
        case rel => exact ⟨i + 1, n + 1, rfl, by omega, by simp, ⟨by have := HO.out.1; omega, by rw [HT2.out]; exact HF.out.1, HF.out.2⟩⟩
    · have hie : i = s.length := by omega
      subst hie
      rw [List.take_length] at HR
      have B9 : Bx (Below w.heap.size w wr ∧ w.heap.size ≤ om) := ⟨HS.out.2.trans ((I1.out.1.trans ((by rw [HOM.out]; exact HR.out.2.2 : Below w1.heap.size w1 wr).mono I1.out.1.size)).mono HS.out.2.size), by rw [← HOM.out]; exact (HS.out.2.trans (I1.out.1.mono HS.out.2.size)).size⟩
      go_wp2
      go_ret
      exact ⟨om, n, rfl, HR.out.2.1, HR.out.1, B9.out.2, B9.out.1⟩
end Go.Proofs.Ytjabdhmkibahlaa
namespace Go.Proofs.Ytjabdhmkibahlaa
open Go.RowKit Go.MapKept Go.ChangeMaps Go.WideShapes
set_option linter.unusedVariables false
set_option linter.unusedSimpArgs false

/-! ### who waits where, in plain words -/
theorem arms_mem (A : Int → List Int) (id : Int) : ∀ (l : List Hd) (c x : Int), x ∈ atArms A id l c ↔ x ∈ A c ∨ (x = id ∧ ∃ h ∈ l, h.chan = c) := by
  intro l
  induction l generalizing A with
  | nil => intro c x; simp [atArms]
  | cons h r ih =>
    intro c x
    show x ∈ atArms (upd A h.chan (A h.chan ++ [id])) id r c ↔ _
    rw [ih]
    by_cases e : c = h.chan
    · subst e
      rw [upd_same, List.mem_append, List.mem_singleton]
      constructor
      · rintro ((h1 | h1) | ⟨h1, h2, h3, h4⟩)
        · exact .inl h1
        · exact .inr ⟨h1, h, List.mem_cons_self, rfl⟩
        · exact .inr ⟨h1, h2, List.mem_cons_of_mem _ h3, h4⟩
      · rintro (h1 | ⟨h1, h2, h3, h4⟩)
        · exact .inl (.inl h1)
        · exact .inl (.inr h1)
    · rw [upd_other _ _ e]
      constructor
      · rintro (h1 | ⟨h1, h2, h3, h4⟩)
        · exact .inl h1
        · exact .inr ⟨h1, h2, List.mem_cons_of_mem _ h3, h4⟩
      · rintro (h1 | ⟨h1, h2, h3, h4⟩)
        · exact .inl h1
        · rcases List.mem_cons.1 h3 with rfl | h3
          · exact absurd h4.symm e
          · exact .inr ⟨h1, h2, h3, h4⟩
theorem atD_mem (s : List Ag) (c x : Int) : x ∈ atD s c ↔ ∃ a ∈ s, a.id = x ∧ ∃ h ∈ a.arms, h.chan = c := by
  have key : ∀ (s : List Ag) (A : Int → List Int), x ∈ atF A s c ↔ x ∈ A c ∨ ∃ a ∈ s, a.id = x ∧ ∃ h ∈ a.arms, h.chan = c := by
    intro s
    induction s with
    | nil => intro A; simp [atF]
    | cons a r ih =>
      intro A
      show x ∈ atF (atArms A a.id a.arms) r c ↔ _
      rw [ih, arms_mem]
      constructor
      · rintro ((h1 | ⟨h1, h2⟩) | ⟨b, h1, h2⟩)
        · exact .inl h1
        · exact .inr ⟨a, List.mem_cons_self, h1.symm, h2⟩
        · exact .inr ⟨b, List.mem_cons_of_mem _ h1, h2⟩
      · rintro (h1 | ⟨b, h1, h2, h3⟩)
        · exact .inl (.inl h1)
        · rcases List.mem_cons.1 h1 with rfl | h1
          · exact .inl (.inr ⟨h2.symm, h3⟩)
          · exact .inr ⟨b, h1, h2, h3⟩
  unfold atD
  rw [key]
  simp
theorem AtI.rows {w W : World} {n : Nat} {A : Int → List Int} (h : AtI w W n A) (h64 : ∀ c, ∀ x ∈ A c, I64 x) : ∃ m V, MpI W w.heap.size m nV V (fun c => !(A c).isEmpty) ∧ RowsK w.heap.size W V A ∧ m ≤ n := by
  obtain ⟨m, V, own, hm, hw, hl, hb⟩ := h
  refine ⟨m, V, hw.map, fun c => ?_, hm⟩
  have h1 := hw.row c
  rcases h1.2 with ⟨x1, x2⟩ | ⟨g, cap, cur, x1, x2, x3, x4, x5, x6, x7⟩
  · exact ⟨none, 0, by rw [x1, x2], by omega, by simp [maxLen], fun i hi => by omega⟩
  · refine ⟨_, cap, x1, x4, x5, fun i hi => ⟨g, 0, rfl, h64 c _ (List.getElem_mem hi), fun X hX => ?_⟩⟩
    rw [x1] at h1
    have h5 := h1.cellAt i (by omega)
    have hgl := (Array.getElem?_eq_some_iff.1 x3).1
    have hne : g ≠ w.heap.size := fun e => by
      obtain ⟨D, ⟨es, clock, h0, _⟩, _⟩ := hw.map.ex
      rw [← e, x3] at h0
      cases h0
    rw [Nat.zero_add, show X.cell? ⟨g, i, none⟩ = W.cell? ⟨g, i, none⟩ by simp only [World.cell?, hX.keep g hgl hne]]
    refine h5.trans ?_
    simp [rowC, hi]
theorem RowsK.off {am : Nat} {w : World} {V : Int → Value} {A : Int → List Int} (h : RowsK am w V A) (H : Int → Option Int) : RowsK am w (fun c => if (H c).isSome then nV else V c) (fun c => if (H c).isSome then [] else A c) := fun c => by
  cases hc : (H c).isSome with
  | true => exact ⟨none, 0, by simp [hc, nV], by simp [hc], by simp [maxLen], fun i hi => by simp [hc] at hi⟩
  | false =>
    have h1 := h c
    simp only [hc, Bool.false_eq_true, if_false]
    exact h1
/-! ### levels -/
def wyN (k : Int) (Y : Int → Option Wy) (N : Int → Option Lk) (id : Int) : Option Wy := match N id with
  | some l => some (k, l)
  | none => Y id
def cutA (H : Int → Option Int) (A : Int → List Int) (c : Int) : List Int := if (H c).isSome then [] else A c
/-- the ids of a level, rising -/
def IdsOf (N : Int → Option Lk) (ids : List Int) : Prop := ids.Pairwise (· < ·) ∧ ∀ k, k ∈ ids ↔ (N k).isSome = true
inductive Lvl (f : Int → Ag) (A0 : Int → List Int) (N0 : Int → Option Lk) : Nat → (Int → List Int) → (Int → Option Wy) → (Int → Option Lk) → Prop
  | one : Lvl f A0 N0 1 A0 (fun _ => none) N0
  | step {k A Y N N' ids} : Lvl f A0 N0 k A Y N → IdsOf N ids → OpO A (fun i => (wyN k Y N i).isSome) (opL f (hoD f A ids)) (fun c => (hoD f A ids c).isSome) N' → Lvl f A0 N0 (k + 1) (cutA (hoD f A ids) A) (wyN k Y N) N'
def cntY (Y : Int → Option Wy) (K : List Int) : Nat := (K.filter fun k => (Y k).isSome).length
theorem cntY_le (Y : Int → Option Wy) (K : List Int) : cntY Y K ≤ K.length := List.length_filter_le _ _
theorem cntY_put {Y : Int → Option Wy} {k : Int} (l : Wy) (h : Y k = none) : ∀ {K : List Int}, k ∈ K → cntY Y K + 1 ≤ cntY (upd Y k (some l)) K := by
  have mono : ∀ (K : List Int), cntY Y K ≤ cntY (upd Y k (some l)) K := by
    intro K
    induction K with
    | nil => exact Nat.le_refl _
    | cons x r ih =>
      unfold cntY at ih ⊢
      rw [List.filter_cons, List.filter_cons]
      by_cases e : x = k
      · subst e
        rw [upd_same, h]
        simp
        omega
      · rw [upd_other _ _ e]
        split
        · simp only [List.length_cons]; omega
        · exact ih
  intro K hk
  induction K with
  | nil => cases hk
  | cons x r ih =>
    by_cases e : x = k
    · subst e
      have := mono r
      unfold cntY at this ⊢
      rw [List.filter_cons, List.filter_cons, upd_same, h]
      simp
      omega
    · have h2 := ih (by rcases List.mem_cons.1 hk with h | h; exact absurd h.symm e; exact h)
      unfold cntY at h2 ⊢
      rw [List.filter_cons, List.filter_cons, upd_other _ _ e]
      split
      · simp only [List.length_cons]; omega
      · exact h2
theorem WyM.put2 {W : World} {mb n : Nat} {Y : Int → Option Wy} (h : WyM W mb n Y) {c : Int} (hc : I64 c) (hn : n < maxLen) (y : Wy) : ∃ w', (Instr.mapUpdate 80 (.map (some mb)) (.int .i64 c) (.agg #[.int .i64 y.1, .int .i64 y.2.waker, .int .i64 y.2.woken, .int .i64 y.2.chan])).run Try.prog W = .ok () w' ∧ WyM w' mb (n + 1) (upd Y c (some y)) ∧ W.grownBy w' (some mb) := by
  obtain ⟨w', h1, h2, h3⟩ := MpI.put h Try.underlying80 hc hn (wyV y)
  refine ⟨w', h1, h2.ext (fun d => ?_) (fun d => ?_), h3⟩
  · by_cases e : d = c
    · subst e; rw [upd_same, upd_same]; rfl
    · rw [upd_other _ _ e, upd_other _ _ e]
  · by_cases e : d = c
    · subst e; rw [upd_same, upd_same]; rfl
    · rw [upd_other _ _ e, upd_other _ _ e]
end Go.Proofs.Ytjabdhmkibahlaa
namespace Go.Proofs.Ytjabdhmkibahlaa
open Go.RowKit Go.MapKept Go.ChangeMaps Go.WideShapes Go.Sort Go.Shelf Go.Maps
set_option linter.unusedVariables false
set_option linter.unusedSimpArgs false

theorem keysL_any (mb : Nat) (W : World) : Calls Try.prog 68 #[.map (some mb)] W fun e w' => e = .returned (.func (.func 82) #[] #[.pointer (some ⟨W.heap.size, 0, none⟩)]) ∧ w' = W.alloc (.cells #[.map (some mb)] 101) :=
  (callsIn_wide (n := 5)).1 (AnyZI.keys_in Go.Proofs.Try.keysB Fence.wide 5 trivial rfl (some mb) W)
/-- the ids of a level, in their order -/
theorem sortedL_any (W : World) (mb n : Nat) (z : Value) (M : Int → Value) (hs : Int → Bool) (h : MpI W mb n z M hs) (hn : n ≤ 2147483647) (X : World) (hX : X = W.alloc (.cells #[.map (some mb)] 101)) :
    Calls Try.prog 40 #[.func (.func 82) #[] #[.pointer (some ⟨W.heap.size, 0, none⟩)]] X fun e w' => ∃ v L, e = .returned v ∧ w'.ownsRow X.heap.size 3 1 v L.length (rowC L) ∧ L.Pairwise (· < ·) ∧ (∀ k, k ∈ L ↔ I64 k ∧ hs k = true) ∧ L.length ≤ n ∧ Below X.heap.size X w' := by
  obtain ⟨D, h1, h2⟩ := h.ex
  have hbl := h1.lt
  have hsz := h1.size_le
  have hown : X.ownsMap Try.prog 3 Rw mb n D := by
    obtain ⟨es, clock, hb, Ft, hs, hD⟩ := h1
    exact ⟨es, clock, by rw [hX]; exact (Below.heap_alloc _ _ mb hbl).trans hb, Ft, hs, hD⟩
  have hseq : SeqGives Fence.wide 2 Try.prog 82 #[.pointer (some ⟨W.heap.size, 0, none⟩)] encZ (fun ss => ss.Perm (intKeys D)) (Maps.size D) X :=
    AnyZI.keys_gives (ρ := Go.Proofs.Try.keysB_ren) { Go.Proofs.Try.keysB with } Fence.wide _ trivial rfl (by omega) W.heap.size mb n D _ (by rw [hX]; simp) (by rw [hX]; simp) hown
  have cS := AnyZI.sorted_in Go.Proofs.Try.sortedA Fence.wide 5 trivial trivial trivial trivial rfl (by omega) (sortsA _) (enters_of Try.func59 (by kernel_rfl) rfl) 82 #[.pointer (some ⟨W.heap.size, 0, none⟩)] trivial (enters_of Try.func82 (by kernel_rfl) rfl) _ _ (by unfold maxLen; omega) (by omega) _ hseq
  change CallsIn _ _ Try.prog 40 _ _ _ at cS
  refine ((callsIn_wide (n := 5)).1 cS).mono ?_
  rintro e w' ⟨v, ss, rfl, hS, hrow, hnil, hb⟩
  have hmem : ∀ k, k ∈ srt ss ↔ I64 k ∧ hs k = true := fun k => by
    rw [srt_mem, hS.mem_iff, (int_keys h1).2.1]
    constructor
    · rintro ⟨x1, x2⟩; exact ⟨x1, by rw [← (h2 k x1).2]; exact x2⟩
    · rintro ⟨x1, x2⟩; exact ⟨x1, by rw [(h2 k x1).2]; exact x2⟩
  have hnd : ss.Nodup := hS.nodup_iff.2 (int_keys h1).1
  refine ⟨v, srt ss, rfl, by rw [srt_len]; exact hrow, ?_, hmem, ?_, hb⟩
  · have h3 := srt_le ss
    have h4 := srt_nod hnd
    exact (List.pairwise_and_iff.2 ⟨h3, h4⟩).imp (fun h => by have := h.1; have := h.2; omega)
  · rw [srt_len, hS.length_eq]
    exact (int_keys h1).2.2
end Go.Proofs.Ytjabdhmkibahlaa
namespace Go.Proofs.Ytjabdhmkibahlaa
open Go.RowKit Go.MapKept Go.ChangeMaps Go.WideShapes
set_option linter.unusedVariables false
set_option linter.unusedSimpArgs false

/-! ### find -/
structure FdC (w : World) (s : List Ag) (wm am ym sb : Nat) (K : List Int) : Prop where
  o1 : w.heap.size ≤ wm
  o2 : wm < am
  o3 : am < ym
  o4 : ym < sb
  kl : K.length ≤ 4096
  k64 : ∀ k ∈ K, I64 k
/-- the search under way, in memory -/
structure FdW (w X : World) (s : List Ag) (wm am ym sb : Nat) (M : Int → Value) (nw na ny : Nat) (V : Int → Value) (A : Int → List Int) (Y : Int → Option Wy) (K : List Int) : Prop where
  bel : Below w.heap.size w X
  blk : X.heap[sb]? = some (.cells #[.map (some wm), .map (some am), .map (some ym)] 100 (0, 0))
  who : MpI X wm nw zV M (hasD s)
  at_ : MpI X am na nV V (fun c => !(A c).isEmpty)
  row : RowsK am X V A
  way : WyM X ym ny Y
  cnt : ny ≤ cntY Y K
theorem FdW.below {w X Z : World} {s : List Ag} {wm am ym sb nw na ny : Nat} {M V : Int → Value} {A : Int → List Int} {Y : Int → Option Wy} {K : List Int} (h : FdW w X s wm am ym sb M nw na ny V A Y K) (hb : Below X.heap.size X Z) : FdW w Z s wm am ym sb M nw na ny V A Y K :=
  ⟨h.bel.trans (hb.mono h.bel.size), (hb.block _ (Array.getElem?_eq_some_iff.1 h.blk).1).trans h.blk, h.who.below hb, h.at_.below hb, h.row.later (KMp.below hb), MpI.below h.way hb, h.cnt⟩
/-- a way is put -/
theorem FdW.put {w X Z : World} {s : List Ag} {wm am ym sb nw na ny : Nat} {M V : Int → Value} {A : Int → List Int} {Y : Int → Option Wy} {K : List Int} (h : FdW w X s wm am ym sb M nw na ny V A Y K) (hc : FdC w s wm am ym sb K) {k : Int} {y : Wy} (hk : k ∈ K) (hn : Y k = none) (hm : WyM Z ym (ny + 1) (upd Y k (some y))) (hg : X.grownBy Z (some ym)) : FdW w Z s wm am ym sb M nw na (ny + 1) V A (upd Y k (some y)) K := by
  obtain ⟨o1, o2, o3, o4, _, _⟩ := hc
  have hb : ∀ b, b < X.heap.size → b ≠ ym → Z.heap[b]? = X.heap[b]? := fun b hb hn => hg.block b hb (fun e => hn (by cases e; rfl))
  refine ⟨h.bel.grown hg h.bel.size (fun r e => by cases e; omega), (hb _ (Array.getElem?_eq_some_iff.1 h.blk).1 (by omega)).trans h.blk, h.who.same (hb _ h.who.lt (by omega)), h.at_.same (hb _ h.at_.lt (by omega)), fun c => ?_, hm, Nat.le_trans (Nat.succ_le_succ h.cnt) (cntY_put y hn hk)⟩
  obtain ⟨p, d, e, h1, h2, h3⟩ := h.row c
  refine ⟨p, d, e, h1, h2, fun i hi => ?_⟩
  obtain ⟨b, o, e1, h4, h5⟩ := h3 i hi
  refine ⟨b, o, e1, h4, fun T hT => ?_⟩
  -- the cell as it stands in X, and in what comes of it
  have hx := h5 X (KMp.refl _ _)
  have hbx := World.block_lt_of_cell? X _ hx
  have hby : b ≠ ym := fun e2 => by
    obtain ⟨D, ⟨es, clock, h0, _⟩, _⟩ := MpI.ex h.way
    rw [e2] at hx
    simp only [World.cell?, h0] at hx
    cases hx
  have hba : b ≠ am := fun e2 => by
    obtain ⟨D, ⟨es, clock, h0, _⟩, _⟩ := h.at_.ex
    rw [e2] at hx
    simp only [World.cell?, h0] at hx
    cases hx
  have e3 : T.heap[b]? = X.heap[b]? := (hT.keep b (Nat.lt_of_lt_of_le hbx hg.size) hba).trans (hb b hbx hby)
  rw [show T.cell? ⟨b, o + i, none⟩ = X.cell? ⟨b, o + i, none⟩ by simp only [World.cell?, e3]]
  exact hx
/-- what open leaves -/
theorem FdW.opened {w X Z : World} {s : List Ag} {wm am ym sb nw na ny om n : Nat} {M V : Int → Value} {A : Int → List Int} {Y : Int → Option Wy} {K : List Int} {f : Int → Ag} {H : Int → Option Int} {hy : Int → Bool} {O : Int → Option Lk} (h : FdW w X s wm am ym sb M nw na ny V A Y K) (hc : FdC w s wm am ym sb K) (hp : OpPost X Z am na f H V A hy K om n O) : FdW w Z s wm am ym sb M nw na ny (fun c => if (H c).isSome then nV else V c) (cutA H A) Y K := by
  obtain ⟨o1, o2, o3, o4, _, _⟩ := hc
  have hk := hp.kmp
  exact ⟨hk.low h.bel (by omega), (hk.keep _ (Array.getElem?_eq_some_iff.1 h.blk).1 (by omega)).trans h.blk, hk.map h.who (by omega), hp.at_, (h.row.later hk).off H, hk.map h.way (by omega), h.cnt⟩
end Go.Proofs.Ytjabdhmkibahlaa
