import Derived.Below
namespace Go.Proofs.Yteinpijbdgcehaa
open Go
set_option linter.unusedVariables false
set_option linter.unusedSimpArgs false

/-! ### who can meet whom (plain) -/
structure OArm where
  chan : Int
  send : Bool
  x : Int
  y : Int
  zp : Option Addr
  zn : Nat
  zc : Nat
structure OWt where
  id : Int
  arms : List OArm
structure OPr where
  p : Int
  i : Nat
  q : Int
  j : Nat
  ch : Int
/-- what is told of each of a list, by its place -/
def ofm {α β : Type} (f : Nat → α → List β) : Nat → List α → List β
  | _, [] => []
  | n, a :: r => f n a ++ ofm f (n + 1) r
theorem mem_ofm {α β : Type} (f : Nat → α → List β) (x : β) : ∀ (l : List α) (n : Nat), x ∈ ofm f n l ↔ ∃ i a, l[i]? = some a ∧ x ∈ f (n + i) a
  | [], n => by simp [ofm]
  | a :: r, n => by
    rw [ofm, List.mem_append, mem_ofm f x r (n + 1)]
    constructor
    · rintro (h | ⟨i, b, h1, h2⟩)
      · exact ⟨0, a, rfl, h⟩
      · exact ⟨i + 1, b, by simpa using h1, by rw [show n + (i + 1) = n + 1 + i by omega]; exact h2⟩
    · rintro ⟨i, b, h1, h2⟩
      cases i with
      | zero =>
        simp at h1
        subst h1
        exact .inl h2
      | succ i => exact .inr ⟨i, b, by simpa using h1, by rw [show n + 1 + i = n + (i + 1) by omega]; exact h2⟩
theorem filter_ofm {α β : Type} (f : Nat → α → List β) (p : β → Bool) : ∀ (l : List α) (n : Nat), (ofm f n l).filter p = ofm (fun i a => (f i a).filter p) n l
  | [], n => rfl
  | a :: r, n => by rw [ofm, List.filter_append, filter_ofm f p r, ofm]
theorem ofm_congr {α β : Type} {f g : Nat → α → List β} (h : ∀ i a, f i a = g i a) : ∀ (l : List α) (n : Nat), ofm f n l = ofm g n l
  | [], n => rfl
  | a :: r, n => by rw [ofm, ofm, h, ofm_congr h r]
theorem ofm_nil {α β : Type} : ∀ (l : List α) (n : Nat), ofm (fun _ _ => ([] : List β)) n l = []
  | [], n => rfl
  | a :: r, n => by rw [ofm, ofm_nil r]; rfl
/-- the arms of Q that meet the arm i of P -/
def omeet (P : OWt) (i : Nat) (a : OArm) (Q : OWt) : List OPr :=
  if Q.id = P.id then [] else ofm (fun j b => if b.send = false ∧ b.chan = a.chan then [⟨P.id, i, Q.id, j, a.chan⟩] else []) 0 Q.arms
def oarm (l : List OWt) (P : OWt) (i : Nat) (a : OArm) : List OPr := if a.send = true ∧ 0 < a.chan then l.flatMap (omeet P i a) else []
def oall (l : List OWt) : List OPr := l.flatMap fun P => ofm (oarm l P) 0 P.arms
/-- a right list: its numbers are from 0 on, each above the one ahead of it -/
def orightFrom : Int → List OWt → Bool
  | _, [] => true
  | k, w :: r => decide (k < w.id) && orightFrom w.id r
def oright (l : List OWt) : Bool := orightFrom (-1) l
/-- P13.1 -/
def opairs (l : List OWt) : List OPr := if oright l then oall l else []
/-- P13.2, P13.3 -/
def oins (l : List OWt) : List OPr := if oright l then l.flatMap fun Q => ofm (fun j b => if b.send = false ∧ b.chan = 1 then [⟨-1, 0, Q.id, j, 1⟩] else []) 0 Q.arms else []
def oouts (l : List OWt) : List OPr := if oright l then l.flatMap fun P => ofm (fun i a => if a.send = true ∧ a.chan = 2 then [⟨P.id, i, -1, 0, 2⟩] else []) 0 P.arms else []
theorem mem_omeet (P : OWt) (i : Nat) (a : OArm) (Q : OWt) (x : OPr) : x ∈ omeet P i a Q ↔ Q.id ≠ P.id ∧ ∃ j b, Q.arms[j]? = some b ∧ b.send = false ∧ b.chan = a.chan ∧ x = ⟨P.id, i, Q.id, j, a.chan⟩ := by
  unfold omeet
  split
  · rename_i h
    simp [h]
  · rename_i h
    rw [mem_ofm]
    constructor
    · rintro ⟨j, b, h1, h2⟩
      split at h2
      · rename_i hb
        rw [List.mem_singleton, Nat.zero_add] at h2
        exact ⟨h, j, b, h1, hb.1, hb.2, h2⟩
      · cases h2
    · rintro ⟨_, j, b, h1, h2, h3, rfl⟩
      exact ⟨j, b, h1, by rw [if_pos ⟨h2, h3⟩, Nat.zero_add]; exact List.mem_singleton.2 rfl⟩
/-- who meets whom -/
structure OMeet (l : List OWt) (x : OPr) (P Q : OWt) (a b : OArm) : Prop where
  pin : P ∈ l
  qin : Q ∈ l
  ne : Q.id ≠ P.id
  pa : P.arms[x.i]? = some a
  qa : Q.arms[x.j]? = some b
  send : a.send = true
  recv : b.send = false
  pos : 0 < a.chan
  chan : b.chan = a.chan
  xp : x.p = P.id
  xq : x.q = Q.id
  xc : x.ch = a.chan
theorem mem_oall (l : List OWt) (x : OPr) : x ∈ oall l ↔ ∃ P Q a b, OMeet l x P Q a b := by
  unfold oall
  rw [List.mem_flatMap]
  constructor
  · rintro ⟨P, hP, h⟩
    obtain ⟨i, a, h1, h2⟩ := (mem_ofm _ _ _ _).1 h
    unfold oarm at h2
    split at h2
    · rename_i ha
      obtain ⟨Q, hQ, h3⟩ := List.mem_flatMap.1 h2
      obtain ⟨hne, j, b, h4, h5, h6, rfl⟩ := (mem_omeet _ _ _ _ _).1 h3
      exact ⟨P, Q, a, b, ⟨hP, hQ, hne, by simpa using h1, h4, ha.1, h5, ha.2, h6, rfl, rfl, rfl⟩⟩
    · cases h2
  · rintro ⟨P, Q, a, b, h⟩
    refine ⟨P, h.pin, (mem_ofm _ _ _ _).2 ⟨x.i, a, h.pa, ?_⟩⟩
    unfold oarm
    rw [if_pos ⟨h.send, h.pos⟩, Nat.zero_add]
    refine List.mem_flatMap.2 ⟨Q, h.qin, (mem_omeet _ _ _ _ _).2 ⟨h.ne, x.j, b, h.qa, h.recv, h.chan, ?_⟩⟩
    cases x
    have := h.xp
    have := h.xq
    have := h.xc
    simp_all
/-! ### they rise -/
def orise (x y : OPr) : Prop := x.p < y.p ∨ x.p = y.p ∧ (x.i < y.i ∨ x.i = y.i ∧ (x.q < y.q ∨ x.q = y.q ∧ x.j < y.j))
theorem pw_app {α : Type} {R : α → α → Prop} {a b : List α} (ha : a.Pairwise R) (hb : b.Pairwise R) (h : ∀ x ∈ a, ∀ y ∈ b, R x y) : (a ++ b).Pairwise R := List.pairwise_append.2 ⟨ha, hb, h⟩
theorem pw_ofm {α β : Type} {R : β → β → Prop} (f : Nat → α → List β) (h1 : ∀ i a, (f i a).Pairwise R) (h2 : ∀ i j a b x y, i < j → x ∈ f i a → y ∈ f j b → R x y) : ∀ (l : List α) (n : Nat), (ofm f n l).Pairwise R
  | [], n => List.Pairwise.nil
  | a :: r, n => by
    rw [ofm]
    refine pw_app (h1 n a) (pw_ofm f h1 h2 r (n + 1)) (fun x hx y hy => ?_)
    obtain ⟨j, b, _, hy⟩ := (mem_ofm _ _ _ _).1 hy
    exact h2 n (n + 1 + j) a b x y (by omega) hx hy
theorem right_above : ∀ (l : List OWt) (k : Int), orightFrom k l = true → ∀ w ∈ l, k < w.id
  | [], k, _, w, h => by cases h
  | v :: r, k, hr, w, h => by
    rw [orightFrom, Bool.and_eq_true, decide_eq_true_eq] at hr
    rcases List.mem_cons.1 h with rfl | h
    · exact hr.1
    · exact Int.lt_trans hr.1 (right_above r v.id hr.2 w h)
theorem pw_flat {β : Type} {R : β → β → Prop} (f : OWt → List β) (h1 : ∀ w, (f w).Pairwise R) (h2 : ∀ v w x y, v.id < w.id → x ∈ f v → y ∈ f w → R x y) : ∀ (l : List OWt) (k : Int), orightFrom k l = true → (l.flatMap f).Pairwise R
  | [], k, _ => List.Pairwise.nil
  | v :: r, k, hr => by
    rw [orightFrom, Bool.and_eq_true, decide_eq_true_eq] at hr
    rw [List.flatMap_cons]
    refine pw_app (h1 v) (pw_flat f h1 h2 r v.id hr.2) (fun x hx y hy => ?_)
    obtain ⟨w, hw, hy⟩ := List.mem_flatMap.1 hy
    exact h2 v w x y (right_above r v.id hr.2 w hw) hx hy
theorem oall_rise (l : List OWt) (hr : oright l = true) : (oall l).Pairwise orise := by
  have hm : ∀ P i a x, x ∈ oarm l P i a → x.p = P.id ∧ x.i = i := fun P i a x hx => by
    unfold oarm at hx
    split at hx
    · obtain ⟨Q, _, hx⟩ := List.mem_flatMap.1 hx
      obtain ⟨_, j, b, _, _, _, rfl⟩ := (mem_omeet _ _ _ _ _).1 hx
      exact ⟨rfl, rfl⟩
    · cases hx
  refine pw_flat _ (fun P => ?_) (fun P P2 x y h hx hy => ?_) l (-1) hr
  · refine pw_ofm _ (fun i a => ?_) (fun i j a b x y h hx hy => ?_) _ _
    · unfold oarm
      split
      · refine pw_flat _ (fun Q => ?_) (fun Q Q2 x y h hx hy => ?_) l (-1) hr
        · unfold omeet
          split
          · exact List.Pairwise.nil
          · refine pw_ofm _ (fun j b => ?_) (fun j j2 b b2 x y h hx hy => ?_) _ _
            · split
              · exact List.pairwise_singleton _ _
              · exact List.Pairwise.nil
            · split at hx
              · split at hy
                · rw [List.mem_singleton] at hx hy
                  subst hx
                  subst hy
                  exact .inr ⟨rfl, .inr ⟨rfl, .inr ⟨rfl, h⟩⟩⟩
                · cases hy
              · cases hx
        · obtain ⟨_, _, _, _, _, _, rfl⟩ := (mem_omeet _ _ _ _ _).1 hx
          obtain ⟨_, _, _, _, _, _, rfl⟩ := (mem_omeet _ _ _ _ _).1 hy
          exact .inr ⟨rfl, .inr ⟨rfl, .inl h⟩⟩
      · exact List.Pairwise.nil
    · have h1 := hm P i a x hx
      have h2 := hm P j b y hy
      exact .inr ⟨by rw [h1.1, h2.1], .inl (by rw [h1.2, h2.2]; exact h)⟩
  · obtain ⟨i, a, _, hx⟩ := (mem_ofm _ _ _ _).1 hx
    obtain ⟨j, b, _, hy⟩ := (mem_ofm _ _ _ _).1 hy
    have h1 := hm _ _ _ _ hx
    have h2 := hm _ _ _ _ hy
    exact .inl (by rw [h1.1, h2.1]; exact h)
/-! ### who goes away takes their own pairs along, and no others -/
theorem filter_flat {α β : Type} (f : α → List β) (p : β → Bool) : ∀ l : List α, (l.flatMap f).filter p = l.flatMap fun w => (f w).filter p
  | [] => rfl
  | a :: r => by rw [List.flatMap_cons, List.flatMap_cons, List.filter_append, filter_flat f p r]
theorem flat_filter {α β : Type} (f : α → List β) (q : α → Bool) : ∀ l : List α, (l.filter q).flatMap f = l.flatMap fun w => if q w then f w else []
  | [] => rfl
  | a :: r => by
    rw [List.filter_cons, List.flatMap_cons]
    split
    · rw [List.flatMap_cons, flat_filter f q r]
    · rw [flat_filter f q r, List.nil_append]
theorem flat_congr {α β : Type} {f g : α → List β} : ∀ {l : List α}, (∀ a ∈ l, f a = g a) → l.flatMap f = l.flatMap g
  | [], _ => rfl
  | a :: r, h => by rw [List.flatMap_cons, List.flatMap_cons, h a List.mem_cons_self, flat_congr (fun b hb => h b (List.mem_cons_of_mem _ hb))]
def onot (k : Int) (x : OPr) : Bool := x.p != k && x.q != k
theorem filter_all {β : Type} {p : β → Bool} {l : List β} (h : ∀ x ∈ l, p x = true) : l.filter p = l := List.filter_eq_self.2 h
theorem filter_none {β : Type} {p : β → Bool} {l : List β} (h : ∀ x ∈ l, p x = false) : l.filter p = [] := List.filter_eq_nil_iff.2 (fun x hx => by rw [h x hx]; simp)
theorem oall_without (l : List OWt) (k : Int) : oall (l.filter fun w => w.id != k) = (oall l).filter (onot k) := by
  unfold oall
  rw [filter_flat, flat_filter]
  refine flat_congr (fun P hP => ?_)
  rw [filter_ofm]
  by_cases hk : P.id = k
  · rw [if_neg (by simp [hk])]
    symm
    rw [show (ofm (fun i a => (oarm l P i a).filter (onot k)) 0 P.arms) = ofm (fun _ _ => []) 0 P.arms from ofm_congr (fun i a => filter_none (fun x hx => ?_)) _ _]
    · exact ofm_nil _ _
    · unfold oarm at hx
      split at hx
      · obtain ⟨Q, _, hx⟩ := List.mem_flatMap.1 hx
        obtain ⟨_, j, b, _, _, _, rfl⟩ := (mem_omeet _ _ _ _ _).1 hx
        simp [onot, hk]
      · cases hx
  · rw [if_pos (by simp [hk])]
    refine ofm_congr (fun i a => ?_) _ _
    unfold oarm
    split
    · rw [filter_flat, flat_filter]
      refine flat_congr (fun Q hQ => ?_)
      by_cases hq : Q.id = k
      · rw [if_neg (by simp [hq])]
        symm
        refine filter_none (fun x hx => ?_)
        obtain ⟨_, j, b, _, _, _, rfl⟩ := (mem_omeet _ _ _ _ _).1 hx
        simp [onot, hq]
      · rw [if_pos (by simp [hq])]
        symm
        refine filter_all (fun x hx => ?_)
        obtain ⟨_, j, b, _, _, _, rfl⟩ := (mem_omeet _ _ _ _ _).1 hx
        simp [onot, hq, hk]
    · rfl
theorem right_filter (p : OWt → Bool) : ∀ (l : List OWt) (k m : Int), m ≤ k → orightFrom k l = true → orightFrom m (l.filter p) = true
  | [], k, m, _, _ => rfl
  | v :: r, k, m, hm, hr => by
    rw [orightFrom, Bool.and_eq_true, decide_eq_true_eq] at hr
    rw [List.filter_cons]
    split
    · rw [orightFrom, Bool.and_eq_true, decide_eq_true_eq]
      exact ⟨by omega, right_filter p r v.id v.id (Int.le_refl _) hr.2⟩
    · exact right_filter p r v.id m (by omega) hr.2
theorem right_drop : ∀ (l : List OWt) (k : Int) (n : Nat) (w : OWt), orightFrom k l = true → l[n]? = some w → l.take n ++ l.drop (n + 1) = l.filter fun v => v.id != w.id
  | [], k, n, w, _, h => by simp at h
  | v :: r, k, 0, w, hr, h => by
    simp at h
    subst h
    rw [orightFrom, Bool.and_eq_true, decide_eq_true_eq] at hr
    have hab := right_above r v.id hr.2
    rw [List.filter_cons, if_neg (by simp)]
    simp only [List.take_zero, List.nil_append, List.drop_succ_cons, List.drop_zero]
    exact (filter_all (fun x hx => by have := hab x hx; simp; omega)).symm
  | v :: r, k, n + 1, w, hr, h => by
    rw [orightFrom, Bool.and_eq_true, decide_eq_true_eq] at hr
    have h : r[n]? = some w := by simpa using h
    have hw := right_above r v.id hr.2 w (List.mem_of_getElem? h)
    have ih := right_drop r v.id n w hr.2 h
    rw [List.filter_cons, if_pos (by simp; omega), ← ih]
    simp
/-- P13.4 -/
theorem opairs_without (l : List OWt) (hr : oright l = true) (n : Nat) (w : OWt) (h : l[n]? = some w) : opairs (l.take n ++ l.drop (n + 1)) = (opairs l).filter (onot w.id) := by
  have e := right_drop l (-1) n w hr h
  have hr2 : oright (l.filter fun v => v.id != w.id) = true := right_filter _ l (-1) (-1) (Int.le_refl _) hr
  rw [e]
  unfold opairs
  rw [if_pos hr, if_pos hr2, oall_without]
/-! ### turned round -/
def oturnA (a : OArm) : OArm := { a with send := !a.send }
def oturnW (w : OWt) : OWt := ⟨w.id, w.arms.map oturnA⟩
def oswap (x : OPr) : OPr := ⟨x.q, x.j, x.p, x.i, x.ch⟩
theorem right_turn : ∀ (l : List OWt) (k : Int), orightFrom k (l.map oturnW) = orightFrom k l
  | [], k => rfl
  | v :: r, k => by rw [List.map_cons, orightFrom, orightFrom, show (oturnW v).id = v.id from rfl, right_turn r]
theorem turn_at {w : OWt} {i : Nat} {a : OArm} (h : w.arms[i]? = some a) : (oturnW w).arms[i]? = some (oturnA a) := by
  unfold oturnW
  simp only [List.getElem?_map, h, Option.map_some]
theorem turn_back {w : OWt} {i : Nat} {a : OArm} (h : (oturnW w).arms[i]? = some a) : ∃ b, w.arms[i]? = some b ∧ a = oturnA b := by
  unfold oturnW at h
  simp only [List.getElem?_map, Option.map_eq_some_iff] at h
  obtain ⟨b, h1, h2⟩ := h
  exact ⟨b, h1, h2.symm⟩
theorem mem_turn (l : List OWt) (x : OPr) : x ∈ oall (l.map oturnW) ↔ oswap x ∈ oall l := by
  rw [mem_oall, mem_oall]
  constructor
  · rintro ⟨P, Q, a, b, h⟩
    obtain ⟨P', hP, rfl⟩ := List.mem_map.1 h.pin
    obtain ⟨Q', hQ, rfl⟩ := List.mem_map.1 h.qin
    obtain ⟨a', ha, rfl⟩ := turn_back h.pa
    obtain ⟨b', hb, rfl⟩ := turn_back h.qa
    have h1 := h.send
    have h2 := h.recv
    have h3 := h.pos
    have h4 := h.chan
    have h5 := h.ne
    simp only [oturnA, Bool.not_eq_true', Bool.not_eq_false'] at h1 h2 h3 h4
    exact ⟨Q', P', b', a', ⟨hQ, hP, fun e => h5 e.symm, hb, ha, h2, h1, by rw [h4]; exact h3, h4.symm, h.xq, h.xp, by have := h.xc; simp only [oturnA] at this; rw [h4]; exact this⟩⟩
  · rintro ⟨Q', P', b', a', h⟩
    have h4 := h.chan
    refine ⟨oturnW P', oturnW Q', oturnA a', oturnA b', ⟨List.mem_map_of_mem h.qin, List.mem_map_of_mem h.pin, fun e => h.ne e.symm, turn_at h.qa, turn_at h.pa, by simp [oturnA, h.recv], by simp [oturnA, h.send], ?_, h4.symm, h.xq, h.xp, ?_⟩⟩
    · have := h.pos
      simp only [oturnA]
      omega
    · have := h.xc
      simp only [oturnA]
      rw [h4]
      exact this
theorem sub_len {α : Type} : ∀ (a b : List α), a.Pairwise (· ≠ ·) → (∀ x ∈ a, x ∈ b) → a.length ≤ b.length
  | [], b, _, _ => Nat.zero_le _
  | x :: r, b, hp, hs => by
    obtain ⟨s, t, rfl⟩ := List.append_of_mem (hs x List.mem_cons_self)
    rw [List.pairwise_cons] at hp
    have ih := sub_len r (s ++ t) hp.2 (fun y hy => by
      have := hs y (List.mem_cons_of_mem _ hy)
      rw [List.mem_append, List.mem_cons] at this
      rw [List.mem_append]
      rcases this with h | h | h
      · exact .inl h
      · exact absurd h.symm (hp.1 y hy)
      · exact .inr h)
    simp only [List.length_cons, List.length_append] at ih ⊢
    omega
theorem rise_ne {x y : OPr} (h : orise x y) : x ≠ y := by
  rintro rfl
  unfold orise at h
  omega
theorem turn_len (l : List OWt) (hr : oright l = true) : (oall (l.map oturnW)).length = (oall l).length := by
  have hr2 : oright (l.map oturnW) = true := by unfold oright; rw [right_turn]; exact hr
  have n1 := (oall_rise l hr).imp rise_ne
  have n2 := (oall_rise (l.map oturnW) hr2).imp rise_ne
  have sw : ∀ x, oswap (oswap x) = x := fun x => rfl
  have inj : ∀ x y, oswap x = oswap y → x = y := fun x y h => by rw [← sw x, h, sw]
  have e1 := sub_len ((oall (l.map oturnW)).map oswap) (oall l) (List.pairwise_map.2 (n2.imp fun h e => h (inj _ _ e))) (fun x hx => by
    obtain ⟨y, hy, rfl⟩ := List.mem_map.1 hx
    exact (mem_turn l y).1 hy)
  have e2 := sub_len ((oall l).map oswap) (oall (l.map oturnW)) (List.pairwise_map.2 (n1.imp fun h e => h (inj _ _ e))) (fun x hx => by
    obtain ⟨y, hy, rfl⟩ := List.mem_map.1 hx
    exact (mem_turn l _).2 (by rw [sw]; exact hy))
  rw [List.length_map] at e1 e2
  omega
end Go.Proofs.Yteinpijbdgcehaa
