import Derived.Test.YtjabdhmkibahlaaCGLa
import Derived.OwnWalk
namespace Go.Proofs.Ytjabdhmkibahlaa
set_option linter.unusedVariables false
set_option linter.unusedSimpArgs false

/-! ### when there is a link, in plain words -/
theorem wait_sends : ∀ (l : List Hd) (c : Int) (s : Stc), (waitF c s l).sends = true ↔ s.sends = true ∨ ∃ h ∈ l, h.chan ≠ 0 ∧ h.chan = c ∧ h.send = true
  | [], c, s => by simp [waitF]
  | x :: r, c, s => by
    rw [waitF, wait_sends r c]
    by_cases e : x.chan ≠ 0 ∧ x.chan = c
    · rw [if_pos e]
      simp [stAdd, e.1, e.2, or_assoc]
      constructor
      · rintro (h | h | h)
        · exact .inl h
        · exact .inr (.inl ⟨fun h0 => e.1 (e.2.trans h0), h⟩)
        · exact .inr (.inr h)
      · rintro (h | h | h)
        · exact .inl h
        · exact .inr (.inl h.2)
        · exact .inr (.inr h)
    · rw [if_neg e]
      constructor
      · rintro (h | ⟨y, h1, h2⟩)
        · exact .inl h
        · exact .inr ⟨y, List.mem_cons_of_mem _ h1, h2⟩
      · rintro (h | ⟨y, h1, h2⟩)
        · exact .inl h
        · rcases List.mem_cons.1 h1 with rfl | h1
          · exact absurd ⟨h2.1, h2.2.1⟩ e
          · exact .inr ⟨y, h1, h2⟩
theorem wait_recvs : ∀ (l : List Hd) (c : Int) (s : Stc), (waitF c s l).recvs = true ↔ s.recvs = true ∨ ∃ h ∈ l, h.chan ≠ 0 ∧ h.chan = c ∧ h.send = false
  | [], c, s => by simp [waitF]
  | x :: r, c, s => by
    rw [waitF, wait_recvs r c]
    by_cases e : x.chan ≠ 0 ∧ x.chan = c
    · rw [if_pos e]
      simp [stAdd, e.1, e.2, or_assoc]
      constructor
      · rintro (h | h | h)
        · exact .inl h
        · exact .inr (.inl ⟨fun h0 => e.1 (e.2.trans h0), h⟩)
        · exact .inr (.inr h)
      · rintro (h | h | h)
        · exact .inl h
        · exact .inr (.inl h.2)
        · exact .inr (.inr h)
    · rw [if_neg e]
      constructor
      · rintro (h | ⟨y, h1, h2⟩)
        · exact .inl h
        · exact .inr ⟨y, List.mem_cons_of_mem _ h1, h2⟩
      · rintro (h | ⟨y, h1, h2⟩)
        · exact .inl h
        · rcases List.mem_cons.1 h1 with rfl | h1
          · exact absurd ⟨h2.1, h2.2.1⟩ e
          · exact .inr ⟨y, h1, h2⟩
theorem waitI_s (l : List Hd) (c : Int) : (waitI l c).sends = true ↔ ∃ h ∈ l, h.chan ≠ 0 ∧ h.chan = c ∧ h.send = true := by
  unfold waitI; rw [wait_sends]; simp [st0]
theorem waitI_r (l : List Hd) (c : Int) : (waitI l c).recvs = true ↔ ∃ h ∈ l, h.chan ≠ 0 ∧ h.chan = c ∧ h.send = false := by
  unfold waitI; rw [wait_recvs]; simp [st0]
theorem waitI_a (l : List Hd) (c : Int) : (waitI l c).awake = false := waitF_awake c l st0 rfl
theorem on_some {l : List Hd} {c : Int} : onI l c = true ↔ ∃ h ∈ l, h.chan ≠ 0 ∧ h.chan = c := by
  unfold onI
  rw [List.any_eq_true]
  simp
theorem on_wait {l : List Hd} {c : Int} (h : onI l c = true) : (waitI l c).sends = true ∨ (waitI l c).recvs = true := by
  obtain ⟨x, h1, h2, h3⟩ := on_some.1 h
  cases hs : x.send with
  | true => exact .inl ((waitI_s l c).2 ⟨x, h1, h2, h3, hs⟩)
  | false => exact .inr ((waitI_r l c).2 ⟨x, h1, h2, h3, hs⟩)
theorem wakes_of {a b : Stc} (h : a.wakes b = true) : (a.awake = true ∧ (b.sends = true ∨ b.recvs = true)) ∨ (a.sends = true ∧ b.recvs = true) ∨ (a.recvs = true ∧ b.sends = true) := by
  unfold Stc.wakes at h
  simp only [Bool.or_eq_true, Bool.and_eq_true] at h
  rcases h with (h | h) | h
  · exact .inl h
  · exact .inr (.inl h)
  · exact .inr (.inr h)
theorem of_wakes {a b : Stc} (h : (a.awake = true ∧ (b.sends = true ∨ b.recvs = true)) ∨ (a.sends = true ∧ b.recvs = true) ∨ (a.recvs = true ∧ b.sends = true)) : a.wakes b = true := by
  unfold Stc.wakes
  simp only [Bool.or_eq_true, Bool.and_eq_true]
  rcases h with h | h | h
  · exact .inl (.inl h)
  · exact .inl (.inr h)
  · exact .inr h
theorem st_all {s : List Ag} (h : stOk s = true) : ∀ a ∈ s, agOk a = true ∧ -1 < a.id := by
  unfold stOk at h
  rw [Bool.and_eq_true] at h
  exact fun a ha => ⟨ags_all s _ h.2 a ha, (ags_lt s _ h.2).1 a ha⟩
theorem st_lt {s : List Ag} (h : stOk s = true) : (s.map (·.id)).Pairwise (· < ·) := by
  unfold stOk at h
  rw [Bool.and_eq_true] at h
  exact (ags_lt s _ h.2).2
theorem st_ids {s : List Ag} (h : stOk s = true) {i j : Nat} (hi : i < s.length) (hj : j < s.length) (e : s[i].id = s[j].id) : i = j := by
  have hp := List.pairwise_iff_getElem.1 (st_lt h)
  rcases Nat.lt_trichotomy i j with h1 | h1 | h1
  · have := hp i j (by simpa using hi) (by simpa using hj) h1
    simp at this; omega
  · exact h1
  · have := hp j i (by simpa using hj) (by simpa using hi) h1
    simp at this; omega
theorem who_world {s : List Ag} (h : stOk s = true) : whoI s (-1) = wA := by
  have key : ∀ (s : List Ag) (g : Int → Ag), (∀ a ∈ s, -1 < a.id) → s.foldl (fun f a => upd f a.id a) g (-1) = g (-1) := by
    intro s
    induction s with
    | nil => intro g _; rfl
    | cons a r ih =>
      intro g hg
      rw [List.foldl_cons, ih _ (fun b hb => hg b (List.mem_cons_of_mem _ hb)), upd_other]
      have := hg a List.mem_cons_self
      omega
  exact key s who0 (fun a ha => (st_all h a ha).2)
theorem mem_links {s : List Ag} (hok : stOk s = true) (l : Lk) : l ∈ linksI s ↔ ∃ a ∈ s, ∃ c ∈ chI a, ∃ k ∈ wkI (whoI s) (keyL s) a c, l = ⟨k, a.id, c⟩ := by
  unfold linksI
  rw [if_pos hok, List.mem_flatMap]
  constructor
  · rintro ⟨a, ha, h⟩
    obtain ⟨c, hc, h⟩ := List.mem_flatMap.1 h
    obtain ⟨k, hk, rfl⟩ := List.mem_map.1 h
    exact ⟨a, ha, c, hc, k, hk, rfl⟩
  · rintro ⟨a, ha, c, hc, k, hk, rfl⟩
    exact ⟨a, ha, List.mem_flatMap.2 ⟨c, hc, List.mem_map.2 ⟨k, hk, rfl⟩⟩⟩
theorem good_link {s : List Ag} (hok : stOk s = true) {i : Nat} (hg : Good s i) : linksI s ≠ [] := by
  obtain ⟨hi, h, hh, h0, hg⟩ := hg
  have ha := st_all hok s[i] (List.getElem_mem hi)
  have hon : onI s[i].arms h.chan = true := on_some.2 ⟨h, hh, h0, rfl⟩
  have hch : h.chan ∈ chI s[i] := List.mem_filter.2 ⟨on_held ha.1 hon, hon⟩
  suffices hk : ∃ k, k ∈ wkI (whoI s) (keyL s) s[i] h.chan by
    obtain ⟨k, hk⟩ := hk
    exact List.ne_nil_of_mem ((mem_links hok ⟨k, s[i].id, h.chan⟩).2 ⟨_, List.getElem_mem hi, _, hch, k, hk, rfl⟩)
  rcases hg with hw | ⟨k, hk, hne, hm⟩
  · refine ⟨-1, List.mem_filter.2 ⟨List.mem_cons_self, ?_⟩⟩
    rw [who_world hok, Bool.and_eq_true]
    refine ⟨by have := ha.2; simp; omega, ?_⟩
    unfold wldI at hw
    simp only [Bool.or_eq_true, Bool.and_eq_true, beq_iff_eq, Bool.not_eq_true'] at hw
    apply of_wakes
    rcases hw with ⟨e, hs⟩ | ⟨e, hs⟩
    · refine .inr (.inl ⟨?_, (waitI_r _ _).2 ⟨h, hh, h0, rfl, hs⟩⟩)
      rw [e]; rfl
    · refine .inr (.inr ⟨?_, (waitI_s _ _).2 ⟨h, hh, h0, rfl, hs⟩⟩)
      rw [e]; rfl
  · refine ⟨s[k].id, List.mem_filter.2 ⟨List.mem_cons_of_mem _ (List.mem_map.2 ⟨_, List.getElem_mem hk, rfl⟩), ?_⟩⟩
    rw [who_at hok k hk, Bool.and_eq_true]
    refine ⟨by simp only [bne_iff_ne, ne_eq]; exact fun e => hne (st_ids hok hk hi e), ?_⟩
    apply of_wakes
    rcases hm with ⟨haw, hc⟩ | ⟨b, hb, hbc, hbs⟩
    · left
      unfold standI
      rw [if_pos haw]
      exact ⟨by simpa using hc, on_wait hon⟩
    · have hna : s[k].awake = false := by
        cases hx : s[k].awake with
        | false => rfl
        | true =>
          have := awake_none (st_all hok s[k] (List.getElem_mem hk)).1 hx h.chan
          rw [on_some.2 ⟨b, hb, by rw [hbc]; exact h0, hbc⟩] at this
          cases this
      unfold standI
      rw [hna, if_neg (by simp)]
      cases hs : h.send with
      | true => exact .inr (.inr ⟨(waitI_r _ _).2 ⟨b, hb, by rw [hbc]; exact h0, hbc, by rw [hbs, hs]; rfl⟩, (waitI_s _ _).2 ⟨h, hh, h0, rfl, hs⟩⟩)
      | false => exact .inr (.inl ⟨(waitI_s _ _).2 ⟨b, hb, by rw [hbc]; exact h0, hbc, by rw [hbs, hs]; rfl⟩, (waitI_r _ _).2 ⟨h, hh, h0, rfl, hs⟩⟩)
theorem link_good {s : List Ag} (hok : stOk s = true) (hl : linksI s ≠ []) : ∃ i, Good s i := by
  obtain ⟨l, hl⟩ := List.exists_mem_of_ne_nil _ hl
  obtain ⟨a, ha, c, hc, k, hk, rfl⟩ := (mem_links hok l).1 hl
  obtain ⟨i, hi, rfl⟩ := List.mem_iff_getElem.1 ha
  have hon := (List.mem_filter.1 hc).2
  obtain ⟨h0, hh0, hc0, hc1⟩ := on_some.1 hon
  obtain ⟨hk1, hk2⟩ := List.mem_filter.1 hk
  rw [Bool.and_eq_true] at hk2
  have hne : k ≠ s[i].id := by simpa using hk2.1
  refine ⟨i, hi, ?_⟩
  rcases List.mem_cons.1 hk1 with rfl | hk1
  · have hw := wakes_of hk2.2
    rw [who_world hok] at hw
    rcases hw with ⟨h1, _⟩ | ⟨h1, h2⟩ | ⟨h1, h2⟩
    · cases (show (standI wA c).awake = false from waitI_a _ c).symm.trans h1
    · obtain ⟨x, x1, x2, x3, x4⟩ := (waitI_s _ _).1 h1
      obtain ⟨y, y1, y2, y3, y4⟩ := (waitI_r _ _).1 h2
      have hx : c = 1 := by
        rcases List.mem_cons.1 x1 with rfl | x1
        · exact x3.symm
        · rcases List.mem_cons.1 x1 with rfl | x1
          · cases x4
          · cases x1
      exact ⟨y, y1, y2, .inl (by unfold wldI; rw [y3, y4, hx]; rfl)⟩
    · obtain ⟨x, x1, x2, x3, x4⟩ := (waitI_r _ _).1 h1
      obtain ⟨y, y1, y2, y3, y4⟩ := (waitI_s _ _).1 h2
      have hx : c = 2 := by
        rcases List.mem_cons.1 x1 with rfl | x1
        · cases x4
        · rcases List.mem_cons.1 x1 with rfl | x1
          · exact x3.symm
          · cases x1
      exact ⟨y, y1, y2, .inl (by unfold wldI; rw [y3, y4, hx]; rfl)⟩
  · obtain ⟨b, hb, rfl⟩ := List.mem_map.1 hk1
    obtain ⟨j, hj, rfl⟩ := List.mem_iff_getElem.1 hb
    have hji : j ≠ i := fun e => hne (by subst e; rfl)
    have hw := wakes_of hk2.2
    rw [who_at hok j hj] at hw
    unfold standI at hw
    cases hx : s[j].awake with
    | true =>
      rw [hx, if_pos rfl] at hw
      rcases hw with ⟨h1, h2⟩ | ⟨h1, _⟩ | ⟨h1, _⟩
      · have h1' : c ∈ s[j].held := by simpa using h1
        exact ⟨h0, hh0, hc0, .inr ⟨j, hj, hji, .inl ⟨hx, by rw [hc1]; exact h1'⟩⟩⟩
      · cases h1
      · cases h1
    | false =>
      rw [hx, if_neg (by simp)] at hw
      rcases hw with ⟨h1, _⟩ | ⟨h1, h2⟩ | ⟨h1, h2⟩
      · rw [waitI_a] at h1; cases h1
      · obtain ⟨x, x1, x2, x3, x4⟩ := (waitI_s _ _).1 h1
        obtain ⟨y, y1, y2, y3, y4⟩ := (waitI_r _ _).1 h2
        exact ⟨y, y1, y2, .inr ⟨j, hj, hji, .inr ⟨x, x1, by rw [x3, y3], by rw [x4, y4]; rfl⟩⟩⟩
      · obtain ⟨x, x1, x2, x3, x4⟩ := (waitI_r _ _).1 h1
        obtain ⟨y, y1, y2, y3, y4⟩ := (waitI_s _ _).1 h2
        exact ⟨y, y1, y2, .inr ⟨j, hj, hji, .inr ⟨x, x1, by rw [x3, y3], by rw [x4, y4]; rfl⟩⟩⟩
/-! ### how many there can be -/
theorem ch_len {a : Ag} (h : agOk a = true) : (chI a).length * 2 ≤ a.arms.length + a.held.length := by
  have h1 : (chI a).length ≤ a.held.length := List.length_filter_le _ _
  have h2 : (chI a).length ≤ (a.arms.map (·.chan)).length := by
    have hnd : (chI a).Nodup := by
      have : (chI a).Pairwise (· < ·) := (ris_lt a.held 0 (ag_ris h)).filter _
      exact this.imp (fun h => by omega)
    refine nod_len hnd (fun x hx => ?_)
    obtain ⟨y, y1, _, y3⟩ := on_some.1 (List.mem_filter.1 hx).2
    exact List.mem_map.2 ⟨y, y1, y3⟩
  rw [List.length_map] at h2
  omega
theorem flat_len {α β : Type} (f : α → List β) (n : Nat) : ∀ (l : List α), (∀ x ∈ l, (f x).length ≤ n) → (l.flatMap f).length ≤ l.length * n
  | [], _ => by simp
  | x :: r, h => by
    have ih := flat_len f n r (fun y hy => h y (List.mem_cons_of_mem _ hy))
    have := h x List.mem_cons_self
    rw [List.flatMap_cons, List.length_append, List.length_cons, Nat.add_mul]
    omega
theorem lkA_len {s : List Ag} (hok : stOk s = true) (a : Ag) : (lkA (whoI s) (keyL s) a).length ≤ (chI a).length * 4097 := by
  refine flat_len _ _ _ (fun c hc => ?_)
  rw [List.length_map]
  have h1 : (wkI (whoI s) (keyL s) a c).length ≤ (keyL s).length := List.length_filter_le _ _
  have h2 := st_len hok
  have h3 : (keyL s).length = s.length + 1 := by simp [keyL]
  omega
theorem links_len {s : List Ag} (hok : stOk s = true) (ht : totA s ≤ 2147483647) : (linksI s).length ≤ 5000000000000 := by
  have key : ∀ (t : List Ag), (∀ a ∈ t, agOk a = true) → (t.flatMap (lkA (whoI s) (keyL s))).length * 2 ≤ totA t * 4097 := by
    intro t
    induction t with
    | nil => intro _; simp
    | cons a r ih =>
      intro h
      have h1 := ih (fun b hb => h b (List.mem_cons_of_mem _ hb))
      have h2 := lkA_len hok a
      have h3 := ch_len (h a List.mem_cons_self)
      rw [List.flatMap_cons, List.length_append, totA]
      omega
  unfold linksI
  rw [if_pos hok]
  have := key s (fun a ha => (st_all hok a ha).1)
  omega
theorem few_of {s : List Ag} (ht : totA s ≤ 2147483647) : Few s := by
  have key : ∀ (t : List Ag), ∀ a ∈ t, a.arms.length + a.held.length ≤ totA t := by
    intro t
    induction t with
    | nil => intro a h; cases h
    | cons b r ih =>
      intro a h
      rw [totA]
      rcases List.mem_cons.1 h with rfl | h
      · omega
      · have := ih a h; omega
  intro a ha
  have := key s a ha
  omega
end Go.Proofs.Ytjabdhmkibahlaa
namespace Go.Proofs.Ytjabdhmkibahlaa
open Go.RowKit Go.MapKept Go.ChangeMaps Go.WideShapes
set_option linter.unusedVariables false
set_option linter.unusedSimpArgs false

theorem run_append_zero {P : Program} {w : World} (base : Nat) (t ty e : TypeId) (i : TypeInfo) (size : Nat) (ht : P.underlying t = some (.slice e)) (hi : P.info? e = some i)
    (v : Value) (n : Nat) (xs : List Value) (hown : w.ownsRow base e size v n xs) (p : Option Addr) (c : Nat) :
    (Builtin.append_ #[t, t] ty #[v, .slice p 0 c]).run P w = .ok v w := by
  have hl : ∀ a : Addr, (Go.loadCells a 0).run P w = .ok #[] w := fun a => by
    have := run_loadCells_list (P := P) w a [] (by simp)
    simpa using this
  rcases hown.2 with ⟨rfl, rfl⟩ | ⟨g, cap, cur, rfl, _, _, hnc, _⟩
  · cases p <;> simp [Builtin.append_, run_underlying ht, sizeOf, typeInfo, hi, Builtin.lenOf, Builtin.firstCells, storeCells, hl]
  · cases p <;> simp [Builtin.append_, run_underlying ht, sizeOf, typeInfo, hi, Builtin.lenOf, Builtin.firstCells, storeCells, hl, hnc]
theorem wpList_app0 {P : Program} (w : World) {ops : Array Oper} {rest : List Oper} {o : Oper} {a : Act} {Q : Exit → Act → World → Prop}
    (hg : o.guard = none) (s x : Operand) (t : TypeId) (hop : o.op = Op.call { callee := Callee.builtin Builtin.append, args := #[s, x], argTypes := #[t, t] })
    (e : TypeId) (i : TypeInfo) (size : Nat) (h1 : P.underlying t = some (.slice e)) (h2 : P.info? e = some i) (hs : a.eval s = .slice none 0 0) (p : Option Addr) (c : Nat) (hx : a.eval x = .slice p 0 c)
    (hK : wpList P ops Q rest (a.put o.dst (.slice none 0 0)) w) : wpList P ops Q (o :: rest) a w := by
  refine wpList_plain hg fun K hK' => ?_
  have hrun := run_append_zero (P := P) (w := w) 0 t o.type e i size h1 h2 (.slice none 0 0) 0 [] ⟨by simp, .inl ⟨rfl, rfl⟩⟩ p c
  unfold Oper.wp
  simp [execOp, hop, resolve, invoke, builtin, hs, hx, hrun, Result.andThen]
  exact hK' _ _ hK
def hdC (h : Hd) : List Value := [.int .i64 h.chan, .bool h.send]
def hdsC (l : List Hd) : List Value := l.flatMap hdC
theorem hdsC_len (l : List Hd) : (hdsC l).length = l.length * 2 := by
  induction l with
  | nil => rfl
  | cons x r ih => simp only [hdsC, List.flatMap_cons, List.length_append] at ih ⊢; rw [ih]; simp [hdC]; omega
theorem hdsC_at : ∀ (l : List Hd) (i : Nat) (h : i < l.length), (hdsC l)[i * 2]? = some (.int .i64 l[i].chan) ∧ (hdsC l)[i * 2 + 1]? = some (.bool l[i].send)
  | x :: r, 0, h => ⟨rfl, rfl⟩
  | x :: r, i + 1, h => by
    have ih := hdsC_at r i (by simpa using h)
    have e : ∀ j, (hdsC (x :: r))[j + 2]? = (hdsC r)[j]? := fun j => rfl
    rw [show (i + 1) * 2 = i * 2 + 2 by omega, show i * 2 + 2 + 1 = i * 2 + 1 + 2 by omega, e, e]
    exact ih
theorem hdsC_one (l : List Hd) : ∀ u ∈ hdsC l, u.oneCell' = true := fun u hu => by
  obtain ⟨h, _, hh⟩ := List.mem_flatMap.1 hu
  simp [hdC] at hh
  rcases hh with rfl | rfl <;> rfl
theorem infoH : (Try.prog.info? 58).map (fun i => (i.zero, i.size, i.bytes)) = some (some (.agg #[.int .i64 0, .bool false]), 2, 16) := by kernel_rfl
theorem infoG : (Try.prog.info? 53).map (fun i => (i.zero, i.size, i.bytes)) = some (some (.agg #[.int .i64 0, .bool false, .slice none 0 0, .slice none 0 0]), 4, 64) := by kernel_rfl
theorem add_off (b o j : Nat) : (⟨b, o, none⟩ : Addr).add j = ⟨b, o + j, none⟩ := by cases j <;> simp [Addr.add]
theorem ints_own {W : World} {B g cap : Nat} {l : List Int} (h : W.ownsRow B 3 1 (.slice (some ⟨g, 0, none⟩) l.length cap) l.length (rowC l)) (h64 : ∀ x ∈ l, I64 x) : IntsR W (some ⟨g, 0, none⟩) cap l := by
  have h' := h
  rcases h.2 with ⟨x1, _⟩ | ⟨g', cap', cur, x1, x2, x3, x4, x5, x6, x7⟩
  · cases x1
  · cases x1
    refine ⟨x4, x5, fun i hi => ⟨g, 0, rfl, h64 _ (List.getElem_mem hi), fun X hX => ?_⟩⟩
    rw [Nat.zero_add, hX.cell (p := ⟨g, i, none⟩) (Array.getElem?_eq_some_iff.1 x3).1, h'.cellAt i (by omega)]
    simp [rowC, hi]
theorem hds_own {W : World} {B g cap : Nat} {l : List Hd} (h : W.ownsRow B 58 2 (.slice (some ⟨g, 0, none⟩) l.length cap) l.length (hdsC l)) (h64 : ∀ x ∈ l, I64 x.chan) : HdsR W (some ⟨g, 0, none⟩) cap l := by
  have h' := h
  rcases h.2 with ⟨x1, _⟩ | ⟨g', cap', cur, x1, x2, x3, x4, x5, x6, x7⟩
  · cases x1
  · cases x1
    refine ⟨x4, x5, fun i hi => ⟨g, 0, rfl, h64 _ (List.getElem_mem hi), fun X hX => ?_⟩⟩
    obtain ⟨e1, e2⟩ := hdsC_at l i hi
    have hl := (Array.getElem?_eq_some_iff.1 x3).1
    rw [Nat.zero_add]
    exact ⟨by rw [hX.cell (p := ⟨g, i * 2, none⟩) hl, h'.cellAt (i * 2) (by omega)]; exact e1, by rw [hX.cell (p := ⟨g, i * 2 + 1, none⟩) hl, h'.cellAt (i * 2 + 1) (by omega)]; exact e2⟩
set_option maxRecDepth 100000 in
theorem freshI_any (w : World) (p : Option Addr) (c : Nat) (l : List Int) (h : IntsR w p c l) (hl : l.length ≤ 2147483647) :
    Calls Try.prog 49 #[.slice p l.length c] w fun e w' => ∃ p' c', e = .returned (.slice p' l.length c') ∧ (w'.ownsRow w.heap.size 3 1 (.slice p' l.length c') l.length (rowC l) ∧ IntsR w' p' c' l) ∧ Below w.heap.size w w' := by
  obtain ⟨i0, hi, iz0, iz1, iz2⟩ := info_parts infoI
  by_cases h0 : l.length = 0
  · obtain rfl : l = [] := List.eq_nil_of_length_eq_zero h0
    go_enter Try.func49, Try.ntmps49
    go_wp2_with (first | (at_builtin; refine wpList_app0 _ rfl (.const (.slice none 0 0)) (.tmp 3) 45 rfl 3 i0 1 Try.underlying45 hi rfl p c rfl ?_))
    go_ret
    exact ⟨none, 0, rfl, ⟨⟨rfl, .inl ⟨rfl, rfl⟩⟩, by simp, by simp [maxLen], fun i hi => by simp at hi⟩, Below.refl _ _⟩
  · obtain ⟨b, o, rfl, _, _⟩ := h.at_ 0 (by omega)
    have HC : Bx (∀ j u, (rowC l)[j]? = some u → w.cell? ((⟨b, o, none⟩ : Addr).add j) = some u) := ⟨fun j u hj => by
      have hjl : j < l.length := by have := (List.getElem?_eq_some_iff.1 hj).1; simpa [rowC] using this
      obtain ⟨b', o', e, _, h1⟩ := h.at_ j hjl
      cases e
      rw [add_off, h1 w (Below.refl _ _)]
      simp [rowC, hjl] at hj
      rw [← hj]⟩
    have H64 : Bx (∀ x ∈ l, I64 x) := ⟨fun x hx => by
      obtain ⟨j, hj, rfl⟩ := List.mem_iff_getElem.1 hx
      obtain ⟨_, _, _, h1, _⟩ := h.at_ j hj
      exact h1⟩
    have hl0 : 0 < l.length := by omega
    go_enter Try.func49, Try.ntmps49
    go_wp2_with (first | (at_builtin; refine wpList_app _ rfl (.const (.slice none 0 0)) (.tmp 3) 45 rfl w.heap.size 3 i0 (.int .i64 0) 1 8 Try.underlying45 hi iz0 iz1 iz2 rfl (by decide) (.slice none 0 0) 0 [] rfl ⟨rfl, .inl ⟨rfl, rfl⟩⟩ ⟨b, o, none⟩ l.length c (rowC l) rfl (by simp [rowC]) HC.out (by simp [rowC, Value.oneCell']) hl0 (by unfold maxLen; omega) (by omega) (Nat.le_refl _) w.heap.size rfl ?_; intro gg gcap w4 hown hgrow hgi hgl; have HO : Bx (w4.ownsRow w.heap.size 3 1 (.slice (some ⟨gg, 0, none⟩) l.length gcap) l.length (rowC l)) := ⟨(by simpa using hown)⟩; have HG : Bx _ := ⟨hgrow⟩; clear hown hgrow hgi))
    go_ret
    exact ⟨some ⟨gg, 0, none⟩, gcap, by simp, ⟨HO.out, ints_own HO.out H64.out⟩, (Below.refl _ _).grown HG.out (Nat.le_refl _) (fun r e => by cases e)⟩
set_option maxRecDepth 100000 in
theorem freshH_any (w : World) (p : Option Addr) (c : Nat) (l : List Hd) (h : HdsR w p c l) (hl : l.length ≤ 2147483647) :
    Calls Try.prog 48 #[.slice p l.length c] w fun e w' => ∃ p' c', e = .returned (.slice p' l.length c') ∧ (w'.ownsRow w.heap.size 58 2 (.slice p' l.length c') l.length (hdsC l) ∧ HdsR w' p' c' l) ∧ Below w.heap.size w w' := by
  obtain ⟨i0, hi, iz0, iz1, iz2⟩ := info_parts infoH
  by_cases h0 : l.length = 0
  · obtain rfl : l = [] := List.eq_nil_of_length_eq_zero h0
    go_enter Try.func48, Try.ntmps48
    go_wp2_with (first | (at_builtin; refine wpList_app0 _ rfl (.const (.slice none 0 0)) (.tmp 3) 51 rfl 58 i0 2 Try.underlying51 hi rfl p c rfl ?_))
    go_ret
    exact ⟨none, 0, rfl, ⟨⟨rfl, .inl ⟨rfl, rfl⟩⟩, by simp, by simp [maxLen], fun i hi => by simp at hi⟩, Below.refl _ _⟩
  · obtain ⟨b, o, rfl, _, _⟩ := h.at_ 0 (by omega)
    have HC : Bx (∀ j u, (hdsC l)[j]? = some u → w.cell? ((⟨b, o, none⟩ : Addr).add j) = some u) := ⟨fun j u hj => by
      have hjl : j < l.length * 2 := by rw [← hdsC_len]; exact (List.getElem?_eq_some_iff.1 hj).1
      obtain ⟨b', o', e, _, h1⟩ := h.at_ (j / 2) (by omega)
      cases e
      obtain ⟨e1, e2⟩ := hdsC_at l (j / 2) (by omega)
      obtain ⟨g1, g2⟩ := h1 w (Below.refl _ _)
      rw [add_off]
      by_cases hp : j % 2 = 0
      · rw [show j / 2 * 2 = j by omega] at e1 g1
        rw [e1] at hj
        rw [g1, hj]
      · rw [show j / 2 * 2 + 1 = j by omega] at e2
        rw [e2] at hj
        rw [show o + j = o + j / 2 * 2 + 1 by omega, g2, hj]⟩
    have H64 : Bx (∀ x ∈ l, I64 x.chan) := ⟨fun x hx => by
      obtain ⟨j, hj, rfl⟩ := List.mem_iff_getElem.1 hx
      obtain ⟨_, _, _, h1, _⟩ := h.at_ j hj
      exact h1⟩
    have hl0 : 0 < l.length := by omega
    go_enter Try.func48, Try.ntmps48
    go_wp2_with (first | (at_builtin; refine wpList_app _ rfl (.const (.slice none 0 0)) (.tmp 3) 51 rfl w.heap.size 58 i0 (.agg #[.int .i64 0, .bool false]) 2 16 Try.underlying51 hi iz0 iz1 iz2 rfl (by decide) (.slice none 0 0) 0 [] rfl ⟨rfl, .inl ⟨rfl, rfl⟩⟩ ⟨b, o, none⟩ l.length c (hdsC l) rfl (hdsC_len l) HC.out (hdsC_one l) hl0 (by unfold maxLen; omega) (by omega) (Nat.le_refl _) w.heap.size rfl ?_; intro gg gcap w4 hown hgrow hgi hgl; have HO : Bx (w4.ownsRow w.heap.size 58 2 (.slice (some ⟨gg, 0, none⟩) l.length gcap) l.length (hdsC l)) := ⟨(by simpa using hown)⟩; have HG : Bx _ := ⟨hgrow⟩; clear hown hgrow hgi))
    go_ret
    exact ⟨some ⟨gg, 0, none⟩, gcap, by simp, ⟨HO.out, hds_own HO.out H64.out⟩, (Below.refl _ _).grown HG.out (Nat.le_refl _) (fun r e => by cases e)⟩
end Go.Proofs.Ytjabdhmkibahlaa
namespace Go.Proofs.Ytjabdhmkibahlaa
open Go.RowKit Go.MapKept Go.ChangeMaps Go.WideShapes
set_option linter.unusedVariables false
set_option linter.unusedSimpArgs false

/-- all stays but rows of agents -/
structure KA (A X : World) : Prop where
  size : A.heap.size ≤ X.heap.size
  keep : ∀ (b : Nat) (o : Obj), A.heap[b]? = some o → (∀ us fr, o ≠ Obj.cells us 53 fr) → X.heap[b]? = some o
theorem KA.refl (A : World) : KA A A := ⟨Nat.le_refl _, fun _ _ h _ => h⟩
theorem KA.trans {A B C : World} (h : KA A B) (k : KA B C) : KA A C := ⟨Nat.le_trans h.size k.size, fun b o h1 h2 => k.keep b o (h.keep b o h1 h2) h2⟩
theorem KA.below {A B : World} (h : Below A.heap.size A B) : KA A B := ⟨h.size, fun b o h1 _ => (h.block b (Array.getElem?_eq_some_iff.1 h1).1).trans h1⟩
theorem KA.cells {A X : World} (h : KA A X) {b : Nat} {us : Array Value} {t : TypeId} {fr : Nat × Nat} (hb : A.heap[b]? = some (.cells us t fr)) (ht : t ≠ 53) : X.heap[b]? = some (.cells us t fr) := h.keep b _ hb (fun us' fr' e => by cases e; exact ht rfl)
theorem KA.own {A X : World} (h : KA A X) {B : Nat} {e : TypeId} {z n : Nat} {v : Value} {cs : List Value} (ho : A.ownsRow B e z v n cs) (he : e ≠ 53) : X.ownsRow B e z v n cs := by
  refine ⟨ho.1, ?_⟩
  rcases ho.2 with h1 | ⟨g, cap, cur, rfl, h2, h3, h4⟩
  · exact .inl h1
  · exact .inr ⟨g, cap, cur, rfl, h2, h.cells h3 he, h4⟩
theorem KA.grown {A B : World} {B0 : Nat} {u : Value} {n : Nat} {cs : List Value} (ho : A.ownsRow B0 53 4 u n cs) (hg : A.grownBy B u.ownBlock) : KA A B := by
  refine ⟨hg.size, fun b o h1 h2 => (hg.block b (Array.getElem?_eq_some_iff.1 h1).1 (fun e => ?_)).trans h1⟩
  rcases ho.2 with ⟨x1, _⟩ | ⟨g, cap, cur, x1, _, x3, _⟩
  · rw [x1] at e; cases e
  · rw [x1] at e
    cases e
    rw [h1] at x3
    injection x3 with x3
    exact h2 _ _ x3
theorem KA.set {w : World} {b i : Nat} {v : Value} {C : Array Value} (h : w.heap[b]? = some (.cells C 53 (0, 0))) : KA w (w.setCell ⟨b, i, none⟩ v) :=
  ⟨by simp, fun x o hx ho => (Below.heap_setCell w ⟨b, i, none⟩ v x (fun e => by
    have e' : x = b := e
    subst e'
    rw [h] at hx
    injection hx with hx
    exact ho _ _ hx.symm)).trans hx⟩
/-- an agent in four cells, all of whose rows are one's own -/
def AgI (W : World) (B : Nat) (a : Ag) (c4 : List Value) : Prop :=
  ∃ ap ac hp hc, c4 = [.int .i64 a.id, .bool a.awake, .slice ap a.arms.length ac, .slice hp a.held.length hc] ∧ I64 a.id ∧ (∀ x ∈ a.arms, I64 x.chan) ∧ (∀ x ∈ a.held, I64 x) ∧
    W.ownsRow B 58 2 (.slice ap a.arms.length ac) a.arms.length (hdsC a.arms) ∧ W.ownsRow B 3 1 (.slice hp a.held.length hc) a.held.length (rowC a.held)
theorem AgI.keep {W X : World} {B : Nat} {a : Ag} {c4 : List Value} (h : AgI W B a c4) (k : KA W X) : AgI X B a c4 := by
  obtain ⟨ap, ac, hp, hc, e, h1, h2, h3, h4, h5⟩ := h
  exact ⟨ap, ac, hp, hc, e, h1, h2, h3, k.own h4 (by decide), k.own h5 (by decide)⟩
/-- agents in a list of cells -/
def AgC (W : World) (B : Nat) : List Ag → List Value → Prop
  | [], cs => cs = []
  | a :: r, cs => ∃ c4 cr, cs = c4 ++ cr ∧ AgI W B a c4 ∧ AgC W B r cr
theorem AgC.keep {W X : World} {B : Nat} (k : KA W X) : ∀ {gs : List Ag} {cs : List Value}, AgC W B gs cs → AgC X B gs cs
  | [], cs, h => h
  | a :: r, cs, ⟨c4, cr, e, h1, h2⟩ => ⟨c4, cr, e, h1.keep k, h2.keep k⟩
theorem AgC.add {W : World} {B : Nat} {a : Ag} {c4 : List Value} (h : AgI W B a c4) : ∀ {gs : List Ag} {cs : List Value}, AgC W B gs cs → AgC W B (gs ++ [a]) (cs ++ c4)
  | [], cs, e => ⟨c4, [], by rw [show cs = [] from e]; simp, h, rfl⟩
  | b :: r, cs, ⟨d4, cr, e, h1, h2⟩ => ⟨d4, cr ++ c4, by rw [e, List.append_assoc], h1, AgC.add h h2⟩
theorem AgI.len {W : World} {B : Nat} {a : Ag} {c4 : List Value} (h : AgI W B a c4) : c4.length = 4 := by
  obtain ⟨_, _, _, _, rfl, _⟩ := h; rfl
theorem AgC.len {W : World} {B : Nat} : ∀ {gs : List Ag} {cs : List Value}, AgC W B gs cs → cs.length = gs.length * 4
  | [], cs, e => by rw [show cs = [] from e]; rfl
  | b :: r, cs, ⟨d4, cr, e, h1, h2⟩ => by rw [e, List.length_append, h1.len, h2.len, List.length_cons]; omega
theorem AgC.at {W : World} {B : Nat} : ∀ {gs : List Ag} {cs : List Value}, AgC W B gs cs → ∀ i (h : i < gs.length), ∃ c4, AgI W B gs[i] c4 ∧ ∀ j, j < 4 → cs[i * 4 + j]? = c4[j]?
  | b :: r, cs, ⟨d4, cr, e, h1, h2⟩, 0, h => ⟨d4, h1, fun j hj => by rw [e, Nat.zero_mul, Nat.zero_add, List.getElem?_append_left (by rw [h1.len]; exact hj)]⟩
  | b :: r, cs, ⟨d4, cr, e, h1, h2⟩, i + 1, h => by
    obtain ⟨c4, x1, x2⟩ := AgC.at h2 i (by simpa using h)
    refine ⟨c4, x1, fun j hj => ?_⟩
    rw [e, List.getElem?_append_right (by rw [h1.len]; omega), h1.len, show (i + 1) * 4 + j - 4 = i * 4 + j by omega]
    exact x2 j hj
theorem ints_read {W : World} {B cap : Nat} {p : Option Addr} {l : List Int} (h : W.ownsRow B 3 1 (.slice p l.length cap) l.length (rowC l)) (h64 : ∀ x ∈ l, I64 x) : IntsR W p cap l := by
  rcases h.2 with ⟨x1, x2⟩ | ⟨g, cap', cur, x1, _⟩
  · injection x1 with y1 y2 y3
    subst y1 y3
    exact ⟨by omega, by simp [maxLen], fun i hi => by omega⟩
  · injection x1 with y1 y2 y3
    subst y1
    exact ints_own h h64
theorem hds_read {W : World} {B cap : Nat} {p : Option Addr} {l : List Hd} (h : W.ownsRow B 58 2 (.slice p l.length cap) l.length (hdsC l)) (h64 : ∀ x ∈ l, I64 x.chan) : HdsR W p cap l := by
  rcases h.2 with ⟨x1, x2⟩ | ⟨g, cap', cur, x1, _⟩
  · injection x1 with y1 y2 y3
    subst y1 y3
    exact ⟨by omega, by simp [maxLen], fun i hi => by omega⟩
  · injection x1 with y1 y2 y3
    subst y1
    exact hds_own h h64
/-- agents of one's own are to be read -/
theorem AgC.read {W : World} {B B' : Nat} {v : Value} {gs : List Ag} {cs : List Value} (ho : W.ownsRow B' 53 4 v gs.length cs) (h : AgC W B gs cs) : ∃ p c, v = .slice p gs.length c ∧ AgsR W p c gs := by
  have ho' := ho
  rcases ho.2 with ⟨x1, x2⟩ | ⟨g, cap, cur, x1, x2, x3, x4, x5, x6, x7⟩
  · exact ⟨none, 0, by rw [x1, x2], by omega, by simp [maxLen], fun i hi => by omega⟩
  · refine ⟨some ⟨g, 0, none⟩, cap, x1, x4, x5, fun i hi => ?_⟩
    obtain ⟨c4, ⟨ap, ac, hp, hc, e, h1, h2, h3, h4, h5⟩, hat⟩ := h.at i hi
    subst e
    rw [x1] at ho'
    refine ⟨g, 0, ap, ac, hp, hc, rfl, ⟨h1, hds_read h4 h2, ints_read h5 h3⟩, fun X hX => ?_⟩
    have hl := (Array.getElem?_eq_some_iff.1 x3).1
    have key : ∀ j, j < 4 → X.cell? ⟨g, i * 4 + j, none⟩ = cs[i * 4 + j]? := fun j hj => by
      rw [hX.cell (p := ⟨g, i * 4 + j, none⟩) hl, ho'.cellAt (i * 4 + j) (by omega)]
    rw [Nat.zero_add]
    exact ⟨(key 0 (by omega)).trans (hat 0 (by omega)), (key 1 (by omega)).trans (hat 1 (by omega)), (key 2 (by omega)).trans (hat 2 (by omega)), (key 3 (by omega)).trans (hat 3 (by omega))⟩
/-- what a link makes of one -/
def tkA (l : Lk) (a : Ag) : Ag := if a.id = l.waker ∨ a.id = l.woken then { a with awake := true, arms := [] } else a
end Go.Proofs.Ytjabdhmkibahlaa
