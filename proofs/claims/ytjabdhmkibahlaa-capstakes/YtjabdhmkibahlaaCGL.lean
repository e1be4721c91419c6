import Derived.Test.YtjabdhmkibahlaaCGQ
namespace Go.Proofs.Ytjabdhmkibahlaa
open Go.RowKit Go.MapKept Go.ChangeMaps Go.WideShapes
set_option linter.unusedVariables false
set_option linter.unusedSimpArgs false

/-! ### all links, in plain words -/
def chI (a : Ag) : List Int := a.held.filter fun c => onI a.arms c
def wkI (f : Int → Ag) (ks : List Int) (a : Ag) (c : Int) : List Int := ks.filter fun k => k != a.id && (standI (f k) c).wakes (waitI a.arms c)
def lkA (f : Int → Ag) (ks : List Int) (a : Ag) : List Lk := (chI a).flatMap fun c => (wkI f ks a c).map fun k => ⟨k, a.id, c⟩
def keyL (s : List Ag) : List Int := -1 :: s.map (·.id)
def linksI (s : List Ag) : List Lk := if stOk s then s.flatMap (lkA (whoI s) (keyL s)) else []
theorem lt_unique : ∀ {l m : List Int}, l.Pairwise (· < ·) → m.Pairwise (· < ·) → (∀ x, x ∈ l ↔ x ∈ m) → l = m
  | [], [], _, _, _ => rfl
  | [], y :: m, _, _, h => absurd ((h y).2 List.mem_cons_self) (by simp)
  | x :: l, [], _, _, h => absurd ((h x).1 List.mem_cons_self) (by simp)
  | x :: l, y :: m, hl, hm, h => by
    rw [List.pairwise_cons] at hl hm
    have e : x = y := by
      rcases List.mem_cons.1 ((h x).1 List.mem_cons_self) with e | h1
      · exact e
      · rcases List.mem_cons.1 ((h y).2 List.mem_cons_self) with e | h2
        · exact e.symm
        · have := hl.1 y h2
          have := hm.1 x h1
          omega
    subst e
    rw [lt_unique hl.2 hm.2 (fun z => by
      constructor
      · intro hz
        rcases List.mem_cons.1 ((h z).1 (List.mem_cons_of_mem _ hz)) with e | h1
        · have := hl.1 z hz; omega
        · exact h1
      · intro hz
        rcases List.mem_cons.1 ((h z).2 (List.mem_cons_of_mem _ hz)) with e | h1
        · have := hm.1 z hz; omega
        · exact h1)]
theorem ags_lt : ∀ (s : List Ag) (k : Int), agsF k s = true → (∀ a ∈ s, k < a.id) ∧ (s.map (·.id)).Pairwise (· < ·)
  | [], k, _ => ⟨fun a h => (by cases h), List.Pairwise.nil⟩
  | b :: r, k, h => by
    rw [agsF, Bool.and_eq_true, Bool.and_eq_true, decide_eq_true_eq] at h
    have ih := ags_lt r b.id h.2
    refine ⟨fun a ha => ?_, List.pairwise_cons.2 ⟨fun x hx => ?_, ih.2⟩⟩
    · rcases List.mem_cons.1 ha with rfl | ha
      · exact h.1.1
      · have := ih.1 a ha; omega
    · obtain ⟨a, ha, rfl⟩ := List.mem_map.1 hx
      exact ih.1 a ha
theorem keyL_lt {s : List Ag} (h : stOk s = true) : (keyL s).Pairwise (· < ·) := by
  unfold stOk at h
  rw [Bool.and_eq_true] at h
  have := ags_lt s (-1) h.2
  exact List.pairwise_cons.2 ⟨fun x hx => by obtain ⟨a, ha, rfl⟩ := List.mem_map.1 hx; exact this.1 a ha, this.2⟩
theorem hasI_mem : ∀ (s : List Ag) (k : Int), hasI s k = true ↔ k ∈ keyL s := by
  have key : ∀ (s : List Ag) (g : Int → Bool) (k : Int), (s.foldl (fun f a => upd f a.id true) g) k = true ↔ g k = true ∨ k ∈ s.map (·.id) := by
    intro s
    induction s with
    | nil => intro g k; simp
    | cons a r ih =>
      intro g k
      rw [List.foldl_cons, ih, List.map_cons, List.mem_cons]
      by_cases e : k = a.id
      · subst e; rw [upd_same]; simp
      · rw [upd_other _ _ e]; simp [e]
  intro s k
  unfold hasI keyL
  rw [key, List.mem_cons]
  simp
theorem on_held {a : Ag} (h : agOk a = true) {c : Int} (hc : onI a.arms c = true) : c ∈ a.held := by
  unfold agOk at h
  rw [Bool.and_eq_true] at h
  unfold onI at hc
  obtain ⟨x, hx, he⟩ := List.any_eq_true.1 hc
  have := List.all_eq_true.1 h.2 x hx
  unfold armOk at this
  simp at he this
  rcases this with h1 | h1
  · exact absurd h1 he.1
  · rw [← he.2]; exact h1
theorem awake_none {a : Ag} (h : agOk a = true) (haw : a.awake = true) (c : Int) : onI a.arms c = false := by
  unfold agOk at h
  rw [Bool.and_eq_true, Bool.and_eq_true] at h
  have h1 := h.1.1
  rw [haw] at h1
  have h0 : a.arms.length = 0 := by simp at h1; simp [h1]
  have : a.arms = [] := List.eq_nil_of_length_eq_zero h0
  rw [this]
  rfl
theorem wait_off (l : List Hd) (c : Int) (h : onI l c = false) : waitI l c = st0 := by
  have key : ∀ (l : List Hd) (s : Stc), onI l c = false → waitF c s l = s := by
    intro l
    induction l with
    | nil => intro s _; rfl
    | cons x r ih =>
      intro s hx
      unfold onI at hx
      rw [List.any_cons, Bool.or_eq_false_iff] at hx
      rw [waitF, if_neg (fun e => by have := hx.1; simp at this; exact this e.1 e.2)]
      exact ih s hx.2
  exact key l st0 h
theorem chI_eq {a : Ag} (h : agOk a = true) (h64 : ∀ c, onI a.arms c = true → I64 c) {L : List Int} (hl : L.Pairwise (· < ·)) (hm : ∀ k, k ∈ L ↔ I64 k ∧ onI a.arms k = true) : L = chI a := by
  refine lt_unique hl ((ris_lt a.held 0 (ag_ris h)).filter _) (fun x => ?_)
  unfold chI
  rw [hm, List.mem_filter]
  exact ⟨fun x => ⟨on_held h x.2, x.2⟩, fun x => ⟨h64 _ x.2, x.2⟩⟩
theorem wkI_eq {s : List Ag} (hok : stOk s = true) {f : Int → Ag} (hf : ∀ k, (f k).awake = true → ∀ c, onI (f k).arms c = false) (h64 : ∀ k ∈ keyL s, I64 k) {C : Int → Option Nat} {ids : Int → Stc → List Int} (hz : Cz f (hasI s) C ids) {a : Ag} {c : Int} (hC : C c ≠ none) {L : List Int} (hl : L.Pairwise (· ≤ ·)) (hn : L.Nodup) (hm : ∀ k, k ∈ L ↔ ∃ t, t.wakes (waitI a.arms c) = true ∧ k ∈ ids c t ∧ k ≠ a.id) : L = wkI f (keyL s) a c := by
  refine lt_unique ((List.pairwise_and_iff.2 ⟨hl, hn⟩).imp (fun h => by have := h.1; have := h.2; omega)) ((keyL_lt hok).filter _) (fun k => ?_)
  unfold wkI
  rw [hm, List.mem_filter, Bool.and_eq_true]
  constructor
  · rintro ⟨t, h1, h2, h3⟩
    obtain ⟨⟨h4, h5⟩, h6⟩ := (hz.mem c t k).1 h2
    refine ⟨(hasI_mem s k).1 h4, by simpa using h3, ?_⟩
    rcases h6 with ⟨h7, rfl⟩ | ⟨rfl, h7, h8, _⟩
    · have hna : (f k).awake = false := by
        cases hx : (f k).awake with
        | false => rfl
        | true => rw [hf k hx c] at h7; cases h7
      unfold standI
      rw [hna]
      exact h1
    · unfold standI
      rw [h7, show (f k).held.contains c = true by simpa using h8]
      exact h1
  · rintro ⟨h1, h2, h3⟩
    have h4 := (hasI_mem s k).2 h1
    have h5 := h64 k h1
    unfold standI at h3
    cases hx : (f k).awake with
    | true =>
      rw [hx, if_pos rfl] at h3
      cases hy : (f k).held.contains c with
      | false => rw [hy] at h3; simp [Stc.wakes] at h3
      | true =>
        rw [hy] at h3
        exact ⟨awk, h3, (hz.mem c awk k).2 ⟨⟨h4, h5⟩, .inr ⟨rfl, hx, by simpa using hy, hC⟩⟩, by simpa using h2⟩
    | false =>
      rw [hx, if_neg (by simp)] at h3
      cases hy : onI (f k).arms c with
      | false => rw [wait_off _ _ hy] at h3; simp [Stc.wakes, st0] at h3
      | true => exact ⟨_, h3, (hz.mem c _ k).2 ⟨⟨h4, h5⟩, .inl ⟨hy, rfl⟩⟩, by simpa using h2⟩
/-! ### links in memory -/
def lkC (l : Lk) : List Value := [.int .i64 l.waker, .int .i64 l.woken, .int .i64 l.chan]
def lksC (l : List Lk) : List Value := l.flatMap lkC
theorem lksC_snoc (l : List Lk) (x : Lk) : lksC (l ++ [x]) = lksC l ++ lkC x := by simp [lksC]
theorem infoL : (Try.prog.info? 24).map (fun i => (i.zero, i.size, i.bytes)) = some (some (.agg #[.int .i64 0, .int .i64 0, .int .i64 0]), 3, 24) := by kernel_rfl
end Go.Proofs.Ytjabdhmkibahlaa
