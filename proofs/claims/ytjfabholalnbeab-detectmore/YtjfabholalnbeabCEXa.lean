import Derived.Test.YtjfabholalnbeabCEX
import Derived.Test.YtjfabholalnbeabCEY
namespace Go.Proofs.Ytjfabholalnbeab
open Go.RowKit
set_option linter.unusedVariables false
set_option linter.unusedSimpArgs false

/-! ### who is among some; who is awake -/
def hasL (l : List Int) (n : Int) : Bool := l.any fun x => x == n
theorem hasL_iff {l : List Int} {n : Int} : hasL l n = true ↔ n ∈ l := by
  unfold hasL
  rw [List.any_eq_true]
  constructor
  · rintro ⟨x, h1, h2⟩
    have : x = n := by simpa using h2
    rw [← this]; exact h1
  · intro h; exact ⟨n, h, by simp⟩
set_option maxRecDepth 100000 in
set_option maxHeartbeats 2000000 in
theorem has_any (w : World) (p : Option Addr) (c : Nat) (l : List Int) (n : Int) (h : IntsR w p c l) (hn : I64 n) :
    Calls Try.prog 13 #[.slice p l.length c, .int .i64 n] w fun e w' => e = .returned (.bool (hasL l n)) ∧ w' = w := by
  have hlc := h.len
  have hcm := h.max
  unfold maxLen at hcm
  have HS : Bx _ := ⟨h⟩
  clear h
  go_enter Try.func13, Try.ntmps13
  go_wp2
  go_loopg [9] (l.length + 1) (fun k v9 wr => ∃ i : Nat, k = l.length + 1 - i ∧ i ≤ l.length ∧ v9 = .int .i64 i ∧ Bx (hasL (l.drop i) n = hasL l n ∧ wr = w))
  case atStart => exact ⟨0, by simp, by omega, rfl, ⟨by simp, rfl⟩⟩
  case round =>
    obtain ⟨i, hk, hil, rfl, HR⟩ := hrel
    by_cases hlt : i < l.length
    · obtain ⟨b, o, rfl, _, hc⟩ := HS.out.at_ i hlt
      have c0 := hc wr (by rw [HR.out.2]; exact Below.refl _ _)
      have HD : Bx (hasL (l.drop i) n = (l[i] == n || hasL (l.drop (i + 1)) n)) := ⟨by rw [List.drop_eq_getElem_cons hlt]; rfl⟩
      clear hc HS
      generalize l[i] = z at *
      by_cases hz : z = n
      · subst hz
        have HF : Bx (hasL l z = true) := ⟨by rw [← HR.out.1, HD.out]; simp⟩
        go_wp2
        go_ret
        exact ⟨by rw [HF.out]; rfl, HR.out.2⟩
      · have HF : Bx (hasL (l.drop (i + 1)) n = hasL l n) := ⟨by rw [← HR.out.1, HD.out]; simp [hz]⟩
        go_wp2
        go_roundg (l.length + 1 - (i + 1))
        case measure => omega
        case rel => exact ⟨i + 1, rfl, by omega, by simp, ⟨HF.out, HR.out.2⟩⟩
    · have hie : i = l.length := by omega
      subst hie
      have HF : Bx (hasL l n = false) := ⟨by rw [← HR.out.1, List.drop_length]; rfl⟩
      go_wp2
      go_ret
      exact ⟨by rw [HF.out]; rfl, HR.out.2⟩
def awkI : List Ag → Int → Bool
  | [], _ => false
  | a :: r, id => if a.id = id then a.awake else awkI r id
set_option maxRecDepth 100000 in
set_option maxHeartbeats 2000000 in
theorem awk_any (w : World) (p : Option Addr) (c : Nat) (s : List Ag) (n : Int) (h : AgsR w p c s) (hn : I64 n) :
    Calls Try.prog 14 #[.slice p s.length c, .int .i64 n] w fun e w' => e = .returned (.bool (awkI s n)) ∧ Below w.heap.size w w' := by
  have hlc := h.len
  have hcm := h.max
  unfold maxLen at hcm
  have HS : Bx _ := ⟨h⟩
  clear h
  go_enter Try.func14, Try.ntmps14
  go_wp2
  go_loopg [9] (s.length + 1) (fun k v9 wr => ∃ i : Nat, k = s.length + 1 - i ∧ i ≤ s.length ∧ v9 = .int .i64 i ∧ Bx (awkI (s.drop i) n = awkI s n ∧ Below w.heap.size w wr))
  case atStart => exact ⟨0, by simp, by omega, rfl, ⟨by simp, Below.refl _ _⟩⟩
  case round =>
    obtain ⟨i, hk, hil, rfl, HR⟩ := hrel
    by_cases hlt : i < s.length
    · obtain ⟨b, o, ap, ac, hp, hc, rfl, hA, hcl⟩ := HS.out.at_ i hlt
      obtain ⟨c0, c1, c2, c3⟩ := hcl wr HR.out.2
      have HD : Bx (awkI (s.drop i) n = if s[i].id = n then s[i].awake else awkI (s.drop (i + 1)) n) := ⟨by rw [List.drop_eq_getElem_cons hlt]; rfl⟩
      clear hcl hA HS
      generalize s[i] = a at *
      obtain ⟨id, aw, arms, held⟩ := a
      simp only at c0 c1 c2 c3 HD
      obtain ⟨X, hX⟩ : ∃ X, wr.alloc (.cells #[.int .i64 id, .bool aw, .slice ap arms.length ac, .slice hp held.length hc] 32) = X := ⟨_, rfl⟩
      have HB : Bx (Below w.heap.size w X) := ⟨by rw [← hX]; exact HR.out.2.trans ((below1 _ _).mono HR.out.2.size)⟩
      have hkX : X.heap[wr.heap.size]? = some (.cells #[.int .i64 id, .bool aw, .slice ap arms.length ac, .slice hp held.length hc] 32 (0, 0)) := by rw [← hX]; exact World.alloc_heap_new _ _
      have d0 : X.cell? ⟨wr.heap.size, 0, none⟩ = some (.int .i64 id) := cell_of hkX rfl
      have d1 : X.cell? ⟨wr.heap.size, 1, none⟩ = some (.bool aw) := cell_of hkX rfl
      have HXE : Bx (_ = X) := ⟨hX⟩
      rw [← hX] at d0 d1
      clear hX hkX
      by_cases hz : id = n
      · subst hz
        have HF : Bx (awkI s id = aw) := ⟨by rw [← HR.out.1, HD.out, if_pos rfl]⟩
        go_wp2
        rw [HXE.out]
        go_ret
        exact ⟨by rw [HF.out]; rfl, HB.out⟩
      · have HF : Bx (awkI (s.drop (i + 1)) n = awkI s n) := ⟨by rw [← HR.out.1, HD.out, if_neg hz]⟩
        go_wp2
        rw [HXE.out]
        go_roundg (s.length + 1 - (i + 1))
        case measure => omega
        case rel => exact ⟨i + 1, rfl, by omega, by simp, ⟨HF.out, HB.out⟩⟩
    · have hie : i = s.length := by omega
      subst hie
      have HF : Bx (awkI s n = false) := ⟨by rw [← HR.out.1, List.drop_length]; rfl⟩
      go_wp2
      go_ret
      exact ⟨by rw [HF.out]; rfl, HR.out.2⟩
theorem awk_in : ∀ (s : List Ag) (id : Int), awkI s id = true → ∃ a ∈ s, a.id = id ∧ a.awake = true
  | [], id, h => by cases h
  | a :: r, id, h => by
    rw [awkI] at h
    split at h
    · exact ⟨a, List.mem_cons_self, by assumption, h⟩
    · obtain ⟨b, h1, h2⟩ := awk_in r id h
      exact ⟨b, List.mem_cons_of_mem _ h1, h2⟩
end Go.Proofs.Ytjfabholalnbeab
namespace Go.Proofs.Ytjfabholalnbeab
open Go.RowKit
set_option linter.unusedVariables false
set_option linter.unusedSimpArgs false

/-! ### links one behind the other -/
def inLk (ls : List Lk) (id : Int) : Bool := ls.any fun l => id == l.waker || id == l.woken
def tkS (ls : List Lk) (a : Ag) : Ag := if inLk ls a.id then { a with awake := true, arms := [] } else a
theorem tkS_id (ls : List Lk) (a : Ag) : (tkS ls a).id = a.id := by unfold tkS; split <;> rfl
theorem tkS_held (ls : List Lk) (a : Ag) : (tkS ls a).held = a.held := by unfold tkS; split <;> rfl
theorem tkS_nil (s : List Ag) : s.map (tkS []) = s := by
  have : tkS [] = fun a => a := by funext a; rfl
  rw [this]; simp
theorem tkS_snoc (s : List Ag) (ls : List Lk) (l : Lk) : (s.map (tkS ls)).map (tkA l) = s.map (tkS (ls ++ [l])) := by
  rw [List.map_map]
  refine List.map_congr_left fun a _ => ?_
  show tkA l (tkS ls a) = _
  have e : inLk (ls ++ [l]) a.id = (inLk ls a.id || (a.id == l.waker || a.id == l.woken)) := by simp [inLk]
  unfold tkA
  rw [tkS_id]
  unfold tkS
  rw [e]
  by_cases h1 : a.id = l.waker ∨ a.id = l.woken
  · rw [if_pos h1]
    have : (a.id == l.waker || a.id == l.woken) = true := by simpa using h1
    rw [this, Bool.or_true, if_pos rfl]
    split <;> rfl
  · rw [if_neg h1]
    have : (a.id == l.waker || a.id == l.woken) = false := by simpa using h1
    rw [this, Bool.or_false]
theorem tkS_ok {s : List Ag} (h : stOk s = true) (ls : List Lk) : stOk (s.map (tkS ls)) = true := by
  have agok : ∀ a : Ag, agOk a = true → agOk (tkS ls a) = true := fun a h => by
    unfold tkS
    split
    · unfold agOk at h ⊢
      rw [Bool.and_eq_true, Bool.and_eq_true] at h
      simp [h.1.2]
    · exact h
  have key : ∀ (s : List Ag) (k : Int), agsF k s = true → agsF k (s.map (tkS ls)) = true := by
    intro s
    induction s with
    | nil => intro k h; exact h
    | cons a r ih =>
      intro k h
      rw [agsF, Bool.and_eq_true, Bool.and_eq_true] at h
      rw [List.map_cons, agsF, tkS_id, Bool.and_eq_true, Bool.and_eq_true]
      exact ⟨⟨h.1.1, agok _ h.1.2⟩, ih _ h.2⟩
  unfold stOk at h ⊢
  rw [Bool.and_eq_true] at h ⊢
  exact ⟨by simpa using h.1, key s _ h.2⟩
theorem tkS_tot (s : List Ag) (ls : List Lk) : totA (s.map (tkS ls)) ≤ totA s := by
  induction s with
  | nil => simp
  | cons a r ih =>
    have : (tkS ls a).arms.length ≤ a.arms.length := by unfold tkS; split <;> simp
    rw [List.map_cons, totA, totA, tkS_held]
    omega
theorem who_mem {s : List Ag} (hok : stOk s = true) {a : Ag} (ha : a ∈ s) : whoI s a.id = a := by
  obtain ⟨i, hi, rfl⟩ := List.mem_iff_getElem.1 ha
  exact who_at hok i hi
theorem who_tkS {s : List Ag} (hok : stOk s = true) (ls : List Lk) {a : Ag} (ha : a ∈ s) : whoI (s.map (tkS ls)) a.id = tkS ls a := by
  have := who_mem (tkS_ok hok ls) (List.mem_map.2 ⟨a, ha, rfl⟩)
  rw [tkS_id] at this
  exact this
theorem awk_at {s : List Ag} (hok : stOk s = true) {a : Ag} (ha : a ∈ s) : awkI s a.id = a.awake := by
  cases h : awkI s a.id with
  | true =>
    obtain ⟨b, hb, e1, e2⟩ := awk_in s _ h
    have e := whoD_at hok b hb
    rw [e1, whoD_at hok a ha] at e
    rw [e, e2]
  | false =>
    have key : ∀ (r : List Ag), (r.map (·.id)).Pairwise (· < ·) → a ∈ r → awkI r a.id = a.awake := by
      intro r
      induction r with
      | nil => intro _ h; cases h
      | cons b r ih =>
        intro hp h
        rw [List.map_cons, List.pairwise_cons] at hp
        rw [awkI]
        rcases List.mem_cons.1 h with rfl | h
        · rw [if_pos rfl]
        · have := hp.1 a.id (List.mem_map.2 ⟨a, h, rfl⟩)
          rw [if_neg (by omega)]
          exact ih hp.2 h
    rw [← h]
    exact key s (st_lt hok) ha
theorem arms_asleep {s : List Ag} (hok : stOk s = true) {a : Ag} (ha : a ∈ s) {x : Hd} (hx : x ∈ a.arms) : a.awake = false := by
  have h := (st_all hok a ha).1
  cases hw : a.awake with
  | false => rfl
  | true =>
    unfold agOk at h
    rw [Bool.and_eq_true, Bool.and_eq_true] at h
    have h1 := h.1.1
    rw [hw] at h1
    have : 0 < a.arms.length := List.length_pos_of_mem hx
    simp [this] at h1
theorem held_pos {s : List Ag} (hok : stOk s = true) {a : Ag} (ha : a ∈ s) {c : Int} (hc : c ∈ a.held) : c ≠ 0 := by
  have h := ag_ris (st_all hok a ha).1
  have := ris_above _ _ h c hc
  omega
section
variable {s : List Ag} {Y : Int → Option Wy} {id : Int} {n : Nat} {l : Lk}
/-- the agent that a link of a chain wakes: it waits at the channel, and no earlier link is about it -/
theorem chain_wok (hok : stOk s = true) (hw : Ways s Y) (h : Y id = some ((n : Int), l)) (hn : 1 ≤ n) {p : Nat} (hp : p < n) : ∃ a ∈ s, a.id = (lkP Y n l p).woken ∧ a.awake = false ∧ (∃ x ∈ a.arms, x.chan ≠ 0 ∧ x.chan = (lkP Y n l p).chan) ∧ ∀ q, q < p → a.id ≠ (lkP Y n l q).waker ∧ a.id ≠ (lkP Y n l q).woken := by
  obtain ⟨key, k0, ks, _⟩ := chain_info hw h hn
  have ha : ∃ a ∈ s, a.id = (lkP Y n l p).woken ∧ ∃ x ∈ a.arms, x.chan ≠ 0 ∧ x.chan = (lkP Y n l p).chan := by
    cases p with
    | zero =>
      obtain ⟨a, ha, e1, e2, x, hx, e3, hc⟩ := n0_parts hok k0
      refine ⟨a, ha, e1, x, hx, ?_, e3.symm⟩
      rcases hc with ⟨hc, _⟩ | ⟨b, hb, _, _, hc⟩ | ⟨hc, _⟩
      · intro e; unfold wldI at hc; rw [e] at hc; simp at hc
      · exact held_pos hok hb hc
      · exact hc
    | succ p =>
      obtain ⟨e1, e2, x, hx, e3⟩ := ks p hp
      rcases whoD_id s (lkP Y n l (p + 1)).woken with e | ⟨e4, e5⟩
      · rw [e] at hx; cases hx
      · refine ⟨_, e4, e5, x, hx, ?_, e3⟩
        rw [e3]
        rcases whoD_id s (lkP Y n l p).woken with e | ⟨e6, e7⟩
        · rw [e] at e2; cases e2
        · exact held_pos hok e6 e2
  obtain ⟨a, ha, hid, x, hx, hx0, hxc⟩ := ha
  have hasl := arms_asleep hok ha hx
  refine ⟨a, ha, hid, hasl, ⟨x, hx, hx0, hxc⟩, fun q hq => ?_⟩
  have hkp := key p hp
  have hkq := key q (by omega)
  have hwok : ∀ r, r < p → a.id ≠ (lkP Y n l r).woken := fun r hr e => by
    have := key r (by omega)
    rw [← e, hid, hkp] at this
    have := congrArg (fun o => (o.map Prod.fst)) this
    simp at this
    omega
  refine ⟨?_, hwok q hq⟩
  cases q with
  | succ q =>
    rw [(ks q (by omega)).1]
    exact hwok q (by omega)
  | zero =>
    intro e
    obtain ⟨a0, ha0, e1, e2, x0, hx0', e3, hc⟩ := n0_parts hok k0
    rcases hc with ⟨_, hc⟩ | ⟨b, hb, hbw, hc, _⟩ | ⟨hc0, b, hb, hc, hne, hm⟩
    · have := (st_all hok a ha).2; omega
    · have e5 := whoD_at hok b hb
      rw [hc, ← e, whoD_at hok a ha] at e5
      rw [← e5, hasl] at hbw; cases hbw
    · have e5 := whoD_at hok b hb
      rw [hc, ← e, whoD_at hok a ha] at e5
      subst e5
      have hs : (N0D s a.id).isSome = true := (n0_some _ _).2 ⟨a, ha, rfl, _, hm, .inr (.inr ⟨hc0, a0, ha0, by rw [e1]; exact fun e => hne e.symm, by simpa using hx0'⟩)⟩
      cases hN : N0D s a.id with
      | none => rw [hN] at hs; cases hs
      | some l2 =>
        rcases hw.fst _ _ hN with g | g
        · rw [hid, hkp] at g; cases g
        · rw [hid, hkp] at g
          have := congrArg (fun o => (o.map Prod.fst)) g
          simp at this
          omega
def chT (Y : Int → Option Wy) (n : Nat) (l : Lk) (p : Nat) : List Lk := (List.range p).map (lkP Y n l)
theorem chT_succ (Y : Int → Option Wy) (n : Nat) (l : Lk) (p : Nat) : chT Y n l (p + 1) = chT Y n l p ++ [lkP Y n l p] := by
  unfold chT; rw [List.range_succ, List.map_append]; rfl
theorem in_chT {p : Nat} {i : Int} : inLk (chT Y n l p) i = true ↔ ∃ q, q < p ∧ (i = (lkP Y n l q).waker ∨ i = (lkP Y n l q).woken) := by
  unfold inLk chT
  rw [List.any_eq_true]
  constructor
  · rintro ⟨x, hx, h⟩
    obtain ⟨q, hq, rfl⟩ := List.mem_map.1 hx
    exact ⟨q, List.mem_range.1 hq, by simpa using h⟩
  · rintro ⟨q, hq, h⟩
    exact ⟨_, List.mem_map.2 ⟨q, List.mem_range.2 hq, rfl⟩, by simpa using h⟩
theorem not_chT {p : Nat} {i : Int} (h : ∀ q, q < p → i ≠ (lkP Y n l q).waker ∧ i ≠ (lkP Y n l q).woken) : inLk (chT Y n l p) i = false := by
  cases hx : inLk (chT Y n l p) i with
  | false => rfl
  | true =>
    obtain ⟨q, hq, e | e⟩ := in_chT.1 hx
    · exact absurd e (h q hq).1
    · exact absurd e (h q hq).2
/-- EACH LINK OF A CHAIN FITS WHERE IT STANDS -/
theorem chain_fits (hok : stOk s = true) (hw : Ways s Y) (h : Y id = some ((n : Int), l)) (hn : 1 ≤ n) {p : Nat} (hp : p < n) : fitsF (whoI (s.map (tkS (chT Y n l p)))) (lkP Y n l p) = true := by
  obtain ⟨key, k0, ks, _⟩ := chain_info hw h hn
  obtain ⟨a, ha, hid, hasl, ⟨x, hx, hx0, hxc⟩, hno⟩ := chain_wok hok hw h hn hp
  have hsame : tkS (chT Y n l p) a = a := by unfold tkS; rw [not_chT hno]; rfl
  have hgt := (st_all hok a ha).2
  unfold fitsF
  have hstand : standI (whoI (s.map (tkS (chT Y n l p))) (lkP Y n l p).woken) (lkP Y n l p).chan = waitI a.arms (lkP Y n l p).chan := by
    rw [← hid, who_tkS hok _ ha, hsame]
    unfold standI
    rw [hasl, if_neg (by simp)]
  have hon : (waitI a.arms (lkP Y n l p).chan).sends = true ∨ (waitI a.arms (lkP Y n l p).chan).recvs = true := on_wait (on_some.2 ⟨x, hx, hx0, hxc⟩)
  cases p with
  | succ p =>
    obtain ⟨e1, e2, _⟩ := ks p hp
    have hb : ∃ b ∈ s, b.id = (lkP Y n l p).woken ∧ (lkP Y n l (p + 1)).chan ∈ b.held := by
      rcases whoD_id s (lkP Y n l p).woken with e | ⟨e4, e5⟩
      · rw [e] at e2; cases e2
      · exact ⟨_, e4, e5, e2⟩
    obtain ⟨b, hb, hbi, hbh⟩ := hb
    have hne : (lkP Y n l (p + 1)).waker ≠ (lkP Y n l (p + 1)).woken := by
      rw [e1, ← hid]
      exact fun e => (hno p (by omega)).2 e.symm
    rw [if_neg (fun e => by
      rcases e with e | e
      · omega
      · exact hne e), hstand]
    apply of_wakes
    left
    refine ⟨?_, hon⟩
    rw [e1, ← hbi, who_tkS hok _ hb]
    unfold tkS
    rw [show inLk (chT Y n l (p + 1)) b.id = true from in_chT.2 ⟨p, by omega, .inr hbi⟩, if_pos rfl]
    unfold standI
    rw [if_pos rfl]
    simpa using hbh
  | zero =>
    obtain ⟨a0, ha0, e1, e2, x0, hx0', e3, hc⟩ := n0_parts hok k0
    have ea : a0 = a := by
      have := whoD_at hok a0 ha0
      rw [e1, ← hid, whoD_at hok a ha] at this
      exact this.symm
    subst ea
    have es : s.map (tkS (chT Y n l 0)) = s := tkS_nil s
    rw [es] at hstand ⊢
    rcases hc with ⟨hwl, hc⟩ | ⟨b, hb, hbw, hc, hh⟩ | ⟨hc0, b, hb, hc, hne, hm⟩
    · rw [if_neg (fun e => by omega), hstand, hc, who_world hok]
      apply of_wakes
      unfold wldI at hwl
      simp only [Bool.or_eq_true, Bool.and_eq_true, beq_iff_eq, Bool.not_eq_true'] at hwl
      rcases hwl with ⟨e, hs⟩ | ⟨e, hs⟩
      · refine .inr (.inl ⟨?_, (waitI_r _ _).2 ⟨x0, hx0', by omega, e3.symm, hs⟩⟩)
        rw [e3, e]; rfl
      · refine .inr (.inr ⟨?_, (waitI_s _ _).2 ⟨x0, hx0', by omega, e3.symm, hs⟩⟩)
        rw [e3, e]; rfl
    · have hne : b.id ≠ a0.id := fun e => by
        have e5 := whoD_at hok b hb
        rw [e, whoD_at hok a0 ha] at e5
        rw [← e5, hasl] at hbw; cases hbw
      rw [if_neg (fun e => by
        rcases e with e | e
        · omega
        · rw [← hc, ← hid] at e; exact hne e), hstand, ← hc, who_mem hok hb]
      apply of_wakes
      left
      refine ⟨?_, hon⟩
      unfold standI
      rw [if_pos hbw, e3]
      simpa using hh
    · have hbs := arms_asleep hok hb hm
      rw [if_neg (fun e => by
        rcases e with e | e
        · omega
        · rw [← hc] at e; exact hne e), hstand, ← hc, who_mem hok hb]
      apply of_wakes
      unfold standI
      rw [hbs, if_neg (by simp), e3]
      cases hs : x0.send with
      | true => exact .inr (.inr ⟨(waitI_r _ _).2 ⟨_, hm, hc0, rfl, by simp [hs]⟩, (waitI_s _ _).2 ⟨x0, hx0', hc0, rfl, hs⟩⟩)
      | false => exact .inr (.inl ⟨(waitI_s _ _).2 ⟨_, hm, hc0, rfl, by simp [hs]⟩, (waitI_r _ _).2 ⟨x0, hx0', hc0, rfl, hs⟩⟩)
theorem chain_awk (hok : stOk s = true) (hw : Ways s Y) (h : Y id = some ((n : Int), l)) (hn : 1 ≤ n) : (∀ p, p < n → awkI (s.map (tkS (chT Y n l p))) id = false) ∧ awkI (s.map (tkS (chT Y n l n))) id = true := by
  obtain ⟨_, _, _, hlast⟩ := chain_info hw h hn
  obtain ⟨a, ha, hid, hasl, _, hno⟩ := chain_wok hok hw h hn (p := n - 1) (by omega)
  rw [hlast] at hid
  have at_ : ∀ ls, awkI (s.map (tkS ls)) id = (tkS ls a).awake := fun ls => by
    have := awk_at (tkS_ok hok ls) (List.mem_map.2 ⟨a, ha, rfl⟩)
    rw [tkS_id, hid] at this
    exact this
  refine ⟨fun p hp => ?_, ?_⟩
  · rw [at_]
    unfold tkS
    rw [not_chT (fun q hq => hno q (by omega))]
    exact hasl
  · rw [at_]
    unfold tkS
    rw [show inLk (chT Y n l n) a.id = true from in_chT.2 ⟨n - 1, by omega, .inr (by rw [hlast]; exact hid)⟩, if_pos rfl]
end
theorem chL_eq (Y : Int → Option Wy) (n : Nat) (l : Lk) : chL Y n ((n : Int), l) = chT Y n l n := rfl
theorem fdr_can {s : List Ag} {id : Int} {Y : Int → Option Wy} (h : FdR s id Y) : (Y id).isSome = true ↔ Can s id := by
  obtain ⟨k, A, Y0, N, h1, _, h2, h3⟩ := h
  rcases h3 with ⟨h3, rfl⟩ | ⟨⟨l, h3, h4⟩, _⟩
  · exact full_can ⟨k, A, N, h1, h3⟩ id
  · rw [h4]
    exact ⟨fun _ => (lvl_can h1).1 id (by rw [h3]; rfl), fun _ => rfl⟩
theorem can_asleep {s : List Ag} (hok : stOk s = true) {a : Ag} (ha : a ∈ s) (h : Can s a.id) : a.awake = false := by
  have key : ∀ {id : Int}, Can s id → ∃ b ∈ s, b.id = id ∧ b.awake = false := fun {id} h => by
    cases h with
    | first h =>
      obtain ⟨b, hb, e, x, hx, _⟩ := (n0_some _ _).1 h
      exact ⟨b, hb, e, arms_asleep hok hb hx⟩
    | @more j b x hj hb hx hc => exact ⟨b, hb, rfl, arms_asleep hok hb hx⟩
  obtain ⟨b, hb, e, h2⟩ := key h
  have e2 := whoD_at hok b hb
  rw [e, whoD_at hok a ha] at e2
  rw [e2]; exact h2
/-- who has a chain: whoever waits and is not dead -/
theorem chain_ok {s : List Ag} (hok : stOk s = true) {a : Ag} (ha : a ∈ s) {Y Z : Int → Option Wy} (h : FdR s a.id Y) (hZ : Full s Z) : (Y a.id).isSome = (!a.awake && !(hasL (ddL Z s) a.id)) := by
  cases hY : (Y a.id).isSome with
  | true =>
    have hc := (fdr_can h).1 hY
    rw [can_asleep hok ha hc]
    cases hd : hasL (ddL Z s) a.id with
    | false => rfl
    | true =>
      obtain ⟨_, _, _, _, hn⟩ := (dd_mem hZ _).1 (hasL_iff.1 hd)
      exact absurd hc hn
  | false =>
    cases hw : a.awake with
    | true => rfl
    | false =>
      have : hasL (ddL Z s) a.id = true := hasL_iff.2 ((dd_mem hZ _).2 ⟨a, ha, rfl, hw, fun hc => by
        have := (fdr_can h).2 hc
        rw [hY] at this; cases this⟩)
      rw [this]; rfl
end Go.Proofs.Ytjfabholalnbeab
namespace Go.Proofs.Ytjfabholalnbeab
open Go.RowKit
set_option linter.unusedVariables false
set_option linter.unusedSimpArgs false

/-! ### SOUND: the dead stay the same -/
theorem dd_awk {s : List Ag} (hok : stOk s = true) {Y : Int → Option Wy} (hY : Full s Y) : ∀ id ∈ ddL Y s, awkI s id = false := fun id hid => by
  obtain ⟨a, ha, rfl, hw, _⟩ := (dd_mem hY id).1 hid
  cases h : awkI s a.id with
  | false => rfl
  | true =>
    obtain ⟨b, hb, e1, e2⟩ := awk_in s _ h
    exact absurd ((aw_iff _ _).2 ⟨b, hb, e2, e1⟩) (aw_not hok ha hw)
structure StI (w wr : World) (s t : List Ag) (np : Option Addr) (nc : Nat) (dq : Option Addr) (dd : Nat) (D : List Int) : Prop where
  ags : AgsR wr np nc t
  ok : stOk t = true
  tot : totA t ≤ 2147483647
  len : t.length = s.length
  dead : ∃ Z, Full t Z ∧ ddL Z t = D
  awk : ∀ id ∈ D, awkI t id = false
  bel : Below w.heap.size w wr
  dl : IntsR wr dq dd D
theorem StI.next {w wr w4 w5 w6 w7 : World} {s t : List Ag} {np dq tp : Option Addr} {nc dd tc k : Nat} {D : List Int} (h : StI w wr s t np nc dq dd D) {l : Lk} (hl : l ∈ linksI t) (h4 : Below wr.heap.size wr w4) (h5 : AgsR w5 tp tc (t.map (tkA l)) ∧ Below w4.heap.size w4 w5) {Z : Int → Option Wy} (hZ : Full (t.map (tkA l)) Z) (h6 : Below w5.heap.size w5 w6) (h7 : w7 = w6.drewN k) : ddL Z (t.map (tkA l)) = D ∧ StI w w7 s (t.map (tkA l)) tp tc dq dd D := by
  obtain ⟨Y, hY, hD⟩ := h.dead
  have e : ddL Z (t.map (tkA l)) = D := (dead_take h.ok hl hY hZ).trans hD
  have hok := took_ok l h.ok
  have b45 := h4.trans (h5.2.mono h4.size)
  have b46 := b45.trans (h6.mono b45.size)
  have b7 : Below w6.heap.size w6 w7 := by rw [h7]; exact below_drewN (Below.refl _ _) _
  have b47 := b46.trans (b7.mono b46.size)
  have b57 := h6.trans (b7.mono h6.size)
  refine ⟨e, h5.1.later b57, hok, Nat.le_trans (took_tot l) h.tot, by rw [List.length_map]; exact h.len, ⟨Z, hZ, e⟩, fun id hid => ?_, h.bel.trans (b47.mono h.bel.size), h.dl.later b47⟩
  rw [← e] at hid
  exact dd_awk hok hZ id hid
theorem StI.later {w wr w4 : World} {s t : List Ag} {np dq : Option Addr} {nc dd : Nat} {D : List Int} (h : StI w wr s t np nc dq dd D) (h4 : Below wr.heap.size wr w4) : StI w w4 s t np nc dq dd D :=
  ⟨h.ags.later h4, h.ok, h.tot, h.len, h.dead, h.awk, h.bel.trans (h4.mono h.bel.size), h.dl.later h4⟩
theorem rd_int {w : World} {q : Option Addr} {d : Nat} {l : List Int} (h : IntsR w q d l) {x : Int} (hx : x ∈ l) : I64 x := by
  obtain ⟨j, hj, rfl⟩ := List.mem_iff_getElem.1 hx
  obtain ⟨_, _, _, h1, _⟩ := h.at_ j hj
  exact h1
set_option maxRecDepth 100000 in
set_option maxHeartbeats 1500000 in
theorem stays_yes (w : World) (p : Option Addr) (c : Nat) (s : List Ag) (hs : AgsR w p c s) (hz : Lists s) (hsl : s.length ≤ 1152921504606846976) (q : Option Addr) (d : Nat) (ps : List Int) (hq : IntsR w q d ps) (ht : totA s ≤ 2147483647) (h3 : s.length ≤ 300) (hok : stOk s = true) :
    Calls Try.prog 4 #[.slice p s.length c, .slice q ps.length d] w fun e w' => e = .returned (.bool true) ∧ Below w.heap.size w w' := by
  have hlc := hs.len
  have hcm := hs.max
  have qlc := hq.len
  have qcm := hq.max
  unfold maxLen at hcm qcm
  have HH : Bx (Calls Try.prog 8 #[.slice p s.length c] w fun e w' => e = .returned (.bool false) ∧ ∃ k, w' = w.drewN k) := ⟨by
    have := heavy_any w p c s hs hz hsl
    rw [decide_eq_false (by omega)] at this
    exact this⟩
  have HS : Bx (AgsR w p c s ∧ stOk s = true ∧ totA s ≤ 2147483647) := ⟨hs, hok, ht⟩
  have HQ : Bx (IntsR w q d ps) := ⟨hq⟩
  clear hs hz hok ht hq
  go_enter Try.func4, Try.ntmps4
  go_wp2_with (first
    | (go_at_call 8; refine Calls.mono HH.out ?_; rintro e w1 ⟨rfl, k1, hk1⟩; have B1 : Bx (Below w.heap.size w w1) := ⟨by rw [hk1]; exact below_drewN (Below.refl _ _) _⟩; clear hk1)
    | (go_at_call 9; refine Calls.mono (shown15_any _) ?_; rintro e w2 ⟨rfl, hb2⟩; have B2 : Bx (Below w.heap.size w w2) := ⟨B1.out.trans (hb2.mono B1.out.size)⟩; clear hb2)
    | (go_at_call 10; refine Calls.mono (Dead_yes w2 p c s (HS.out.1.later B2.out) HS.out.2.2 HS.out.2.1) ?_; rintro e w3 ⟨Y, dq, dd, hY, rfl, hI, hb3⟩; have I3 : Bx (StI w w3 s s p c dq dd (ddL Y s)) := ⟨⟨(HS.out.1.later B2.out).later hb3, HS.out.2.1, HS.out.2.2, rfl, ⟨Y, hY, rfl⟩, dd_awk HS.out.2.1 hY, B2.out.trans (hb3.mono B2.out.size), hI⟩⟩; clear hI hb3 hY))
  have hDl : (ddL Y s).length ≤ 4096 := by have := ddL_len Y s; omega
  have hDc := I3.out.dl.len
  have hDm := I3.out.dl.max
  unfold maxLen at hDm
  generalize ddL Y s = D at *
  go_loopg [7, 40] (ps.length + 1) (fun g v7 v40 wr => ∃ (i : Nat) (np : Option Addr) (nc : Nat) (t : List Ag), g = ps.length + 1 - i ∧ i ≤ ps.length ∧ v7 = .slice np s.length nc ∧ v40 = .int .i64 (i : Nat) ∧ Bx (StI w wr s t np nc dq dd D))
  case atStart => exact ⟨0, p, c, s, by simp, by omega, rfl, rfl, I3⟩
  case round =>
    obtain ⟨i, np, nc, t, hg, hil, rfl, rfl, HR⟩ := hrel
    have hnl := HR.out.ags.len
    have hnm := HR.out.ags.max
    have htl := HR.out.len
    unfold maxLen at hnm
    rw [htl] at hnl
    by_cases hlt : i < ps.length
    · obtain ⟨qb, qo, rfl, h64, hqc⟩ := HQ.out.at_ i hlt
      have q0 := hqc wr HR.out.bel
      have HLK : Bx (Calls Try.prog 17 #[.slice np s.length nc] wr fun e w' => ∃ lp lc, e = .returned (.slice lp (linksI t).length lc) ∧ LksR w' lp lc (linksI t) ∧ Below wr.heap.size wr w') := ⟨by
        have := Links_r wr np nc t HR.out.ags HR.out.tot HR.out.ok
        rw [htl] at this
        exact this⟩
      have hll := links_len HR.out.ok HR.out.tot
      have HLM : Bx (∀ l, l ∈ linksI t ↔ l ∈ linksI t) := ⟨fun l => Iff.rfl⟩
      clear hqc
      obtain ⟨L, hL⟩ : ∃ L, linksI t = L := ⟨_, rfl⟩
      have HLE : Bx (linksI t = L) := ⟨hL⟩
      rw [hL] at HLK hll
      clear hL HLM
      by_cases hl0 : L.length = 0
      · rw [hl0] at HLK
        go_wp2_with (first | (go_at_call 17; refine Calls.mono HLK.out ?_; rintro e w4 ⟨lp, lc, rfl, hl4, hb4⟩; have I4 : Bx (StI w w4 s t np nc dq dd D) := ⟨HR.out.later hb4⟩; clear hl4 hb4))
        go_loopg [80] (D.length + 1) (fun g v80 wr => ∃ j : Nat, g = D.length + 1 - j ∧ j ≤ D.length ∧ v80 = .int .i64 (j : Nat) ∧ Bx (StI w wr s t np nc dq dd D))
        case atStart => exact ⟨0, by simp, by omega, rfl, I4⟩
        case round =>
          obtain ⟨j, hgj, hjl, rfl, HJ⟩ := hrel
          by_cases hjt : j < D.length
          · obtain ⟨zb, zo, rfl, z64, hzc⟩ := HJ.out.dl.at_ j hjt
            have z0 := hzc wr (Below.refl _ _)
            have HAW : Bx (Calls Try.prog 14 #[.slice np s.length nc, .int .i64 D[j]] wr fun e w' => e = .returned (.bool false) ∧ Below wr.heap.size wr w') := ⟨by
              have := awk_any wr np nc t D[j] HJ.out.ags z64
              rw [htl, HJ.out.awk _ (List.getElem_mem hjt)] at this
              exact this⟩
            clear hzc
            generalize D[j] = z at *
            go_wp2_with (first | (go_at_call 14; refine Calls.mono HAW.out ?_; rintro e w9 ⟨rfl, hb9⟩; have I9 : Bx _ := ⟨HJ.out.later hb9⟩; clear hb9))
            go_roundg (D.length + 1 - (j + 1))
            case measure => omega
            case rel => exact ⟨j + 1, rfl, by omega, by simp, I9⟩
          · have hje : j = D.length := by omega
            subst hje
            go_wp2
            go_ret
            exact ⟨rfl, HJ.out.bel⟩
      · have h1 : 1 ≤ L.length := by omega
        have HAM : Bx (∀ W : World, Calls Try.prog 18 #[.int .i64 ps[i], .int .i64 (L.length : Int)] W fun e w' => (∃ j : Nat, j < L.length ∧ e = .returned (.int .i64 (j : Int))) ∧ w' = W) := ⟨fun W => among_any W ps[i] L.length h64 h1 (by omega)⟩
        have HTK : Bx (∀ x, x ∈ linksI t → Lk64 x → ∀ W : World, Below wr.heap.size wr W → Calls Try.prog 16 #[.slice np s.length nc, .agg #[.int .i64 x.waker, .int .i64 x.woken, .int .i64 x.chan]] W fun e w' => ∃ tp tc, e = .returned (.tuple #[.slice tp s.length tc, .int .i64 0]) ∧ AgsR w' tp tc (t.map (tkA x)) ∧ Below W.heap.size W w') := ⟨fun x hx h64 W hW => by
          have := Take_r W np nc t x (HR.out.ags.later hW) HR.out.tot HR.out.ok h64 (link_fits HR.out.ok hx)
          rw [htl] at this
          exact this⟩
        have HDD : Bx (∀ (x : Lk) (W : World) (tp : Option Addr) (tc : Nat), AgsR W tp tc (t.map (tkA x)) → Calls Try.prog 10 #[.slice tp s.length tc] W (DdPost W (t.map (tkA x)))) := ⟨fun x W tp tc hW => by
          have := Dead_yes W tp tc (t.map (tkA x)) hW (Nat.le_trans (took_tot x) HR.out.tot) (took_ok x HR.out.ok)
          rw [List.length_map, htl] at this
          exact this⟩
        clear hll
        generalize ps[i] = z at *
        go_wp2_with (first
          | (go_at_call 17; refine Calls.mono HLK.out ?_; rintro e w4 ⟨lp, lc, rfl, hl4, hb4⟩; have I4 : Bx (LksR w4 lp lc L ∧ Below wr.heap.size wr w4) := ⟨hl4, hb4⟩; have m1 := hl4.len; have m2 := hl4.max; unfold maxLen at m2; clear hl4 hb4)
          | (go_at_call 18; refine Calls.mono (HAM.out _) ?_; rintro e w5 ⟨⟨j, hj, rfl⟩, rfl⟩; obtain ⟨lb, lo, hlp, l64, hlc5⟩ := I4.out.1.at_ j hj; subst hlp; obtain ⟨l0, l1, l2⟩ := hlc5 w5 (Below.refl _ _); have HX : Bx (L[j] ∈ linksI t ∧ Lk64 L[j]) := ⟨by rw [HLE.out]; exact List.getElem_mem hj, l64⟩; clear hlc5 l64; generalize L[j] = x at *)
          | (go_at_call 16; refine Calls.mono (HTK.out x HX.out.1 HX.out.2 w5 I4.out.2) ?_; rintro e w6 ⟨tp, tc, rfl, hT6, hb6⟩; have I6 : Bx (AgsR w6 tp tc (t.map (tkA x)) ∧ Below w5.heap.size w5 w6) := ⟨hT6, hb6⟩; have n1 := hT6.len; rw [List.length_map, htl] at n1; clear hT6 hb6)
          | (go_at_call 10; refine Calls.mono (HDD.out x w6 tp tc I6.out.1) ?_; rintro e w7 ⟨Z, q7, d7, hZ, rfl, hI7, hb7⟩; have hZD := (HR.out.next (k := 0) HX.out.1 I4.out.2 I6.out hZ hb7 rfl).1; rw [hZD] at hI7; rw [hZD]; have I7 : Bx (IntsR w7 q7 d7 D ∧ Below w6.heap.size w6 w7 ∧ Full (t.map (tkA x)) Z) := ⟨hI7, hb7, hZ⟩; have n2 := hI7.len; have n3 := hI7.max; unfold maxLen at n3; clear hI7 hb7 hZ hZD)
          | (go_at_call 19; refine Calls.mono (numbers_yes w7 q7 dq d7 dd D I7.out.1 (HR.out.dl.later (I4.out.2.trans ((I6.out.2.trans (I7.out.2.1.mono I6.out.2.size)).mono I4.out.2.size)))) ?_; rintro e w8 ⟨rfl, k8, hk8⟩; have I8 : Bx (StI w w8 s (t.map (tkA x)) tp tc dq dd D) := ⟨(HR.out.next HX.out.1 I4.out.2 I6.out I7.out.2.2 I7.out.2.1 hk8).2⟩; clear hk8))
        go_roundg (ps.length + 1 - (i + 1))
        case measure => omega
        case rel => exact ⟨i + 1, tp, tc, t.map (tkA x), rfl, by omega, rfl, by simp, I8⟩
    · have hie : i = ps.length := by omega
      subst hie
      go_wp2
      go_loopg [80] (D.length + 1) (fun g v80 wr => ∃ j : Nat, g = D.length + 1 - j ∧ j ≤ D.length ∧ v80 = .int .i64 (j : Nat) ∧ Bx (StI w wr s t np nc dq dd D))
      case atStart => exact ⟨0, by simp, by omega, rfl, HR⟩
      case round =>
        obtain ⟨j, hgj, hjl, rfl, HJ⟩ := hrel
        by_cases hjt : j < D.length
        · obtain ⟨zb, zo, rfl, z64, hzc⟩ := HJ.out.dl.at_ j hjt
          have z0 := hzc wr (Below.refl _ _)
          have HAW : Bx (Calls Try.prog 14 #[.slice np s.length nc, .int .i64 D[j]] wr fun e w' => e = .returned (.bool false) ∧ Below wr.heap.size wr w') := ⟨by
            have := awk_any wr np nc t D[j] HJ.out.ags z64
            rw [htl, HJ.out.awk _ (List.getElem_mem hjt)] at this
            exact this⟩
          clear hzc
          generalize D[j] = z at *
          go_wp2_with (first | (go_at_call 14; refine Calls.mono HAW.out ?_; rintro e w9 ⟨rfl, hb9⟩; have I9 : Bx _ := ⟨HJ.out.later hb9⟩; clear hb9))
          go_roundg (D.length + 1 - (j + 1))
          case measure => omega
          case rel => exact ⟨j + 1, rfl, by omega, by simp, I9⟩
        · have hje : j = D.length := by omega
          subst hje
          go_wp2
          go_ret
          exact ⟨rfl, HJ.out.bel⟩
end Go.Proofs.Ytjfabholalnbeab
namespace Go.Proofs.Ytjfabholalnbeab
open Go.RowKit
set_option linter.unusedVariables false
set_option linter.unusedSimpArgs false

theorem blw {a b c : World} (h1 : Below a.heap.size a b) (h2 : Below b.heap.size b c) : Below a.heap.size a c := h1.trans (h2.mono h1.size)
theorem heavy_no {w : World} {p : Option Addr} {c : Nat} {s : List Ag} (hs : AgsR w p c s) (hz : Lists s) (hsl : s.length ≤ 1152921504606846976) (ht : totA s ≤ 2147483647) : Calls Try.prog 8 #[.slice p s.length c] w fun e w' => e = .returned (.bool false) ∧ Below w.heap.size w w' := by
  refine (heavy_any w p c s hs hz hsl).mono ?_
  rintro e w' ⟨rfl, k, hk⟩
  rw [decide_eq_false (by omega)]
  exact ⟨rfl, by rw [hk]; exact below_drewN (Below.refl _ _) _⟩
theorem heavy_yes {w : World} {p : Option Addr} {c : Nat} {s : List Ag} (hs : AgsR w p c s) (hz : Lists s) (hsl : s.length ≤ 1152921504606846976) (ht : ¬ totA s ≤ 2147483647) : Calls Try.prog 8 #[.slice p s.length c] w fun e w' => e = .returned (.bool true) ∧ Below w.heap.size w w' := by
  refine (heavy_any w p c s hs hz hsl).mono ?_
  rintro e w' ⟨rfl, k, hk⟩
  rw [decide_eq_true (by omega)]
  exact ⟨rfl, by rw [hk]; exact below_drewN (Below.refl _ _) _⟩
theorem Check_no {w : World} {p : Option Addr} {c : Nat} {s : List Ag} (hs : AgsR w p c s) (ht : totA s ≤ 2147483647) (hok : stOk s = false) : Calls Try.prog 11 #[.slice p s.length c] w fun e w' => e = .returned (.int .i64 140) ∧ Below w.heap.size w w' := by
  have := Check_any w p c s hs (few_of ht)
  rw [show chkI s = 140 by simp [chkI, hok]] at this
  exact this
set_option maxRecDepth 100000 in
set_option maxHeartbeats 1500000 in
theorem stays_walk (w : World) (p : Option Addr) (c : Nat) (s : List Ag) (hs : AgsR w p c s) (hz : Lists s) (hsl : s.length ≤ 1152921504606846976) (q : Option Addr) (d : Nat) (ps : List Int) (hq : IntsR w q d ps) :
    Calls Try.prog 4 #[.slice p s.length c, .slice q ps.length d] w fun e w' => e = .returned (.bool true) ∧ Below w.heap.size w w' := by
  by_cases ht : totA s ≤ 2147483647
  · by_cases h3 : s.length ≤ 300
    · cases hok : stOk s with
      | true => exact stays_yes w p c s hs hz hsl q d ps hq ht h3 hok
      | false =>
        have HH : Bx _ := ⟨heavy_no hs hz hsl ht⟩
        have HD : Bx (∀ W, Below w.heap.size w W → Calls Try.prog 10 #[.slice p s.length c] W fun e w' => e = .returned (.tuple #[.slice none 0 0, .int .i64 140]) ∧ Below W.heap.size W w') := ⟨fun W hW => Dead_no W p c s (hs.later hW) ht hok⟩
        have HC : Bx (∀ W, Below w.heap.size w W → Calls Try.prog 11 #[.slice p s.length c] W fun e w' => e = .returned (.int .i64 140) ∧ Below W.heap.size W w') := ⟨fun W hW => Check_no (hs.later hW) ht hok⟩
        clear hs hz hok ht hq
        go_enter Try.func4, Try.ntmps4
        go_wp2_with (first
          | (go_at_call 8; refine Calls.mono HH.out ?_; rintro e w1 ⟨rfl, hb1⟩; have B1 : Bx (Below w.heap.size w w1) := ⟨hb1⟩; clear hb1)
          | (go_at_call 9; refine Calls.mono (shown15_any _) ?_; rintro e w2 ⟨rfl, hb2⟩; have B2 : Bx (Below w.heap.size w w2) := ⟨B1.out.trans (hb2.mono B1.out.size)⟩; clear hb2)
          | (go_at_call 10; refine Calls.mono (HD.out w2 B2.out) ?_; rintro e w3 ⟨rfl, hb3⟩; have B3 : Bx (Below w.heap.size w w3) := ⟨B2.out.trans (hb3.mono B2.out.size)⟩; clear hb3)
          | (go_at_call 11; refine Calls.mono (HC.out w3 B3.out) ?_; rintro e w4 ⟨rfl, hb4⟩; have B4 : Bx (Below w.heap.size w w4) := ⟨B3.out.trans (hb4.mono B3.out.size)⟩; clear hb4))
        go_ret
        exact ⟨rfl, B4.out⟩
    · have HH : Bx _ := ⟨heavy_no hs hz hsl ht⟩
      clear hs hz ht hq
      go_enter Try.func4, Try.ntmps4
      go_wp2_with (first
        | (go_at_call 8; refine Calls.mono HH.out ?_; rintro e w1 ⟨rfl, hb1⟩; have B1 : Bx (Below w.heap.size w w1) := ⟨hb1⟩; clear hb1))
      go_ret
      exact ⟨rfl, B1.out⟩
  · have HH : Bx _ := ⟨heavy_yes hs hz hsl ht⟩
    clear hs hz ht hq
    go_enter Try.func4, Try.ntmps4
    go_wp2_with (first
      | (go_at_call 8; refine Calls.mono HH.out ?_; rintro e w1 ⟨rfl, hb1⟩; have B1 : Bx (Below w.heap.size w w1) := ⟨hb1⟩; clear hb1))
    go_ret
    exact ⟨rfl, B1.out⟩
end Go.Proofs.Ytjfabholalnbeab
