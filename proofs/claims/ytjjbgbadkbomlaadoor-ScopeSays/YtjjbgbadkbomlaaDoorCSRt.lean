import Derived.Test.YtjjbgbadkbomlaaDoorCSRn
import Derived.Test.YtjjbgbadkbomlaaDoorCSNm
import Derived.Test.YtjjbgbadkbomlaaDoorCSLn
import Derived.Test.YtjjbgbadkbomlaaDoorCSSame
import Derived.Test.YtjjbgbadkbomlaaDoorCSEx
namespace Go.Proofs.YtjjbgbadkbomlaaDoor
set_option linter.unusedVariables false
set_option linter.unusedSimpArgs false

/-- two names, the one for the other -/
def swapN (a b x : ByteArray) : ByteArray := if x = a then b else if x = b then a else x
theorem swap_inv (a b x : ByteArray) : swapN a b (swapN a b x) = x := by
  unfold swapN
  by_cases h1 : x = a
  · subst h1
    rw [if_pos rfl]
    by_cases h2 : b = x
    · rw [if_pos h2, h2]
    · rw [if_neg h2, if_pos rfl]
  · rw [if_neg h1]
    by_cases h2 : x = b
    · subst h2
      rw [if_pos rfl, if_pos rfl]
    · rw [if_neg h2, if_neg h1, if_neg h2]
theorem swap_other {a b x : ByteArray} (h1 : x ≠ a) (h2 : x ≠ b) : swapN a b x = x := by unfold swapN; rw [if_neg h1, if_neg h2]
theorem swap_fix {a b y : ByteArray} (ha : y ≠ a) (hb : y ≠ b) (x : ByteArray) : (swapN a b x = y) ↔ (x = y) := by
  constructor
  · intro h
    have := congrArg (swapN a b) h
    rw [swap_inv, swap_other ha hb] at this
    exact this
  · intro h
    rw [h, swap_other ha hb]
/-- all that one name means has another one -/
structure Rt (a b : ByteArray) (l l' : List Nd) : Prop where
  len : l'.length = l.length
  kd : ∀ i, kdN l' i = kdN l i
  kids : ∀ i, (ndN l' i).kids = (ndN l i).kids
  pos : ∀ i, (ndN l' i).pos = (ndN l i).pos
  num : ∀ i, (ndN l' i).num = (ndN l i).num
  nm : ∀ i, (ndN l' i).name = if (ndN l i).name = a then b else (ndN l i).name
  nob : ∀ i, (ndN l i).name ≠ b
theorem Rt.rn {a b : ByteArray} {l l' : List Nd} (h : Rt a b l l') (ea : emptyB a = false) (eb : emptyB b = false) : Rn (swapN a b) l l' := by
  refine ⟨swap_inv a b, h.len, h.kd, h.kids, fun i => ?_, fun i => ?_⟩
  · rw [h.nm]
    unfold swapN
    rw [if_neg (h.nob i)]
  · rw [h.nm]
    split
    · rename_i e
      rw [e]
      exact eb.trans ea.symm
    · rfl
theorem Rt.tn {a b : ByteArray} {l l' : List Nd} (h : Rt a b l l') (ea : emptyB a = false) (hb : nameOk b.data.toList = true) : Tn l l' := by
  refine ⟨h.len, h.kd, h.kids, fun i _ hp => by rw [h.pos]; exact hp, fun i _ hf => ?_, fun i _ _ => h.num i, fun i _ _ hn => by rw [h.num]; exact hn, fun i _ => by rw [h.num]; exact ⟨Int.le_refl _, rfl⟩⟩
  rw [h.nm]
  split
  · rename_i e
    rw [e] at hf
    unfold nameFitsI at hf ⊢
    split
    · rw [hb]; simp
    · rename_i h1
      rw [if_neg h1] at hf
      split
      · exact hb
      · rename_i h2
        rw [if_neg h2, ea] at hf
        cases hf
  · exact hf
theorem start_sn {a b : ByteArray} {l l' : List Nd} (hl : l'.length = l.length) (h1 : outN ≠ a) (h2 : outN ≠ b) (h3 : inN ≠ a) (h4 : inN ≠ b) : Sn (swapN a b) (startS l) (startS l') := by
  refine ⟨0, ?_⟩
  unfold startS
  rw [hl]
  have : (fun x => nwSc true true (swapN a b x)) = nwSc true true := by
    funext x
    unfold nwSc
    simp only [true_and, swap_fix h1 h2, swap_fix h3 h4]
  simp only [this]
  rfl
/-- what is told of both -/
theorem names_sn {a b : ByteArray} {l l' : List Nd} (h : Rt a b l l') (ea : emptyB a = false) (eb : emptyB b = false) (h1 : outN ≠ a) (h2 : outN ≠ b) (h3 : inN ≠ a) (h4 : inN ≠ b) : (namesS l').ref = (namesS l).ref ∧ (namesS l').free = (namesS l).free ∧ (namesS l').flt.2 = (namesS l).flt.2 := by
  have := vis_sn (h.rn ea eb) l.length (l.length - 1) _ _ (start_sn h.len h1 h2 h3 h4)
  unfold namesS
  rw [h.len]
  obtain ⟨p, e⟩ := this
  rw [e]
  exact ⟨rfl, rfl, rfl⟩
theorem names_sm {l l' : List Nd} (h : Bl l l') : (namesS l').ref = (namesS l).ref ∧ (namesS l').free = (namesS l).free ∧ (namesS l').flt.2 = (namesS l).flt.2 := by
  have hs : startS l' = startS l := by unfold startS; rw [h.len]
  have := vis_sm h l.length (l.length - 1) _ _ (Sm'.refl (startS l))
  unfold namesS
  rw [h.len, hs]
  obtain ⟨p, e⟩ := this
  rw [e]
  exact ⟨rfl, rfl, rfl⟩
end Go.Proofs.YtjjbgbadkbomlaaDoor
namespace Go.Proofs.YtjjbgbadkbomlaaDoor
open Go.RowKit
set_option linter.unusedVariables false
set_option linter.unusedSimpArgs false

/-! ### what is told of the names, as lists -/
theorem names_wf {l : List Nd} (hc : (checkAll l).2 = 0) : SWf l (namesS l) := by
  obtain ⟨hl, h0, _, _⟩ := lok_of hc
  exact (vis_ok hl.lt l.length (l.length - 1) (startS l) (by omega) (start_wf l)).1
theorem NmR.refV {B N : Nat} {W : World} {s : SSt} {rb fb : Nat} {fv : Nat → Value} (h : NmR B N W s rb fb fv) (hl : s.ref.length = N) (hm : N ≤ maxLen) : IntsV W W.heap.size (.slice (some ⟨rb, 0, none⟩) N N) s.ref := by
  refine ⟨some ⟨rb, 0, none⟩, N, by rw [hl], by omega, by omega, fun _ => ⟨rb, 0, rfl, (Array.getElem?_eq_some_iff.1 h.ref).1, fun i hi => ?_⟩⟩
  rw [Nat.zero_add, cell_of_row W rb i _ _ _ h.ref]
  simp [intsC, hi]
theorem row_ints {W : World} {B n : Nat} {v : Value} {xs : List Int} (h : W.ownsRow B 3 1 v n (intsC xs)) (hn : n = xs.length) : ∃ a c, v = .slice a xs.length c ∧ IntsV W W.heap.size (.slice a xs.length c) xs := by
  obtain ⟨h1, h2⟩ := h
  rcases h2 with ⟨h2, h3⟩ | ⟨g, cap, cur, hv, hb, hg, hc, hm, hs, ht⟩
  · have : xs = [] := List.eq_nil_of_length_eq_zero (by omega)
    subst this
    exact ⟨none, 0, h2, ⟨none, 0, rfl, Nat.le_refl _, by simp [maxLen], fun h => by simp at h⟩⟩
  · refine ⟨some ⟨g, 0, none⟩, cap, by rw [hv, hn], ⟨_, _, rfl, by omega, by omega, fun _ => ⟨g, 0, rfl, (Array.getElem?_eq_some_iff.1 hg).1, fun i hi => ?_⟩⟩⟩
    rw [Nat.zero_add, cell_of_row W g i _ _ _ hg]
    have : (cur.toList.take (n * 1))[i]? = some (.int .i64 xs[i]) := by rw [ht]; simp [intsC, hi]
    rw [List.getElem?_take, if_pos (by omega)] at this
    rw [← Array.getElem?_toList]
    exact this
theorem NmR.rws {B N : Nat} {W : World} {s : SSt} {rb fb : Nat} {fv : Nat → Value} (h : NmR B N W s rb fb fv) : Rws W W.heap.size fb N (fun i => s.free.getD i []) := ⟨fun i hi => by
  obtain ⟨a, c, e, hI⟩ := row_ints (h.row i hi) rfl
  refine ⟨a, c, ?_, hI⟩
  rw [cell_of_row W fb i _ _ _ h.free, ← e]
  simp [hi]⟩
theorem NmR.lts {B N : Nat} {W : World} {s : SSt} {rb fb : Nat} {fv : Nat → Value} (h : NmR B N W s rb fb fv) : rb < W.heap.size ∧ fb < W.heap.size := ⟨(Array.getElem?_eq_some_iff.1 h.ref).1, (Array.getElem?_eq_some_iff.1 h.free).1⟩
theorem Rws.mono {w : World} {B B' b N : Nat} {xs : Nat → List Int} (h : Rws w B b N xs) (hB : B ≤ B') : Rws w B' b N xs := ⟨fun i hi => by
  obtain ⟨a, c, h1, h2⟩ := h.at_ i hi
  exact ⟨a, c, h1, h2.mono' hB⟩⟩
/-- names that are told of both: the same -/
theorem same_told {W2 W7 W8 : World} {B1 B2 N rb fb rb' fb' : Nat} {fv fv' : Nat → Value} {s s' : SSt} (h : NmR B1 N W2 s rb fb fv) (h' : NmR B2 N W7 s' rb' fb' fv') (hr : s'.ref = s.ref) (hf : s'.free = s.free) (hl : s.ref.length = N) (hN : N ≤ 2147483647) (b28 : Below W2.heap.size W2 W8) (b78 : Below W7.heap.size W7 W8) :
    Calls Tryd.prog 14 #[.agg #[.slice (some ⟨rb, 0, none⟩) N N, .slice (some ⟨fb, 0, none⟩) N N], .agg #[.slice (some ⟨rb', 0, none⟩) N N, .slice (some ⟨fb', 0, none⟩) N N]] W8 fun e w' => e = .returned (.bool true) ∧ Below W8.heap.size W8 w' := by
  have z1 := b28.size
  have z2 := b78.size
  have l1 := h.lts
  have l2 := h'.lts
  have x3 : Rws W7 W7.heap.size fb' N (fun i => s.free.getD i []) := by have := h'.rws; rw [hf] at this; exact this
  have x1 : IntsV W7 W7.heap.size (.slice (some ⟨rb', 0, none⟩) N N) s.ref := by have := h'.refV (by rw [hr]; exact hl) (by unfold maxLen; omega); rw [hr] at this; exact this
  exact sameNames_yes W8 W8.heap.size rb fb rb' fb' N s.ref (fun i => s.free.getD i []) hl (((h.refV hl (by unfold maxLen; omega)).below b28).mono' z1) ((x1.below b78).mono' z2) ((h.rws.below b28 l1.2).mono z1) ((x3.below b78 l2.2).mono z2) (by omega) (by omega) (Nat.le_refl _) hN
theorem names_ok {w : World} {B cap : Nat} {a : Option Addr} {l : List Nd} (hn : IsNodes w B a cap l) (hL : Laid w) (hl31 : l.length ≤ 2147483647) (hc : (checkAll l).2 = 0) (hf : (namesS l).flt.2 = 0) :
    Calls Tryd.prog 9 #[.slice a l.length cap] w fun e w' => (∃ rb fb fv, e = .returned (.tuple #[.agg #[.slice (some ⟨rb, 0, none⟩) l.length l.length, .slice (some ⟨fb, 0, none⟩) l.length l.length], fltV 0 0]) ∧ NmR w.heap.size l.length w' (namesS l) rb fb fv) ∧ Below w.heap.size w w' :=
  (Names_any w B a cap l hn hL hl31).mono fun e w' ⟨h, hb⟩ => by
    unfold NamesR at h
    rw [if_pos hc, if_pos hf] at h
    exact ⟨h, hb⟩
theorem names_bad {w : World} {B cap : Nat} {a : Option Addr} {l : List Nd} (hn : IsNodes w B a cap l) (hL : Laid w) (hl31 : l.length ≤ 2147483647) (hc : ¬ ((checkAll l).2 = 0 ∧ (namesS l).flt.2 = 0)) :
    Calls Tryd.prog 9 #[.slice a l.length cap] w fun e w' => (∃ p c, c ≠ 0 ∧ e = .returned (.tuple #[nilNames, fltV p c])) ∧ Below w.heap.size w w' :=
  (Names_any w B a cap l hn hL hl31).mono fun e w' ⟨h, hb⟩ => by
    unfold NamesR at h
    refine ⟨?_, hb⟩
    by_cases h1 : (checkAll l).2 = 0
    · have h2 : ¬ (namesS l).flt.2 = 0 := fun e => hc ⟨h1, e⟩
      rw [if_pos h1, if_neg h2] at h
      exact ⟨_, _, h2, h⟩
    · rw [if_neg h1] at h
      exact ⟨_, _, by omega, h⟩
theorem bulk_kids {l : List Nd} {j : Nat} (hj : j < l.length) (h : bulkL l ≤ 2147483647) : (ndN l j).kids.length ≤ 2147483647 ∧ l.length ≤ 2147483647 := by
  have h1 := bulk_take l j hj
  have h2 := bulk_le l (j + 1)
  have h3 := bulk_len l
  omega
end Go.Proofs.YtjjbgbadkbomlaaDoor
namespace Go.Proofs.YtjjbgbadkbomlaaDoor
open Go.RowKit
set_option linter.unusedVariables false
set_option linter.unusedSimpArgs false

theorem and_bound (x m : Int) (h0 : 0 ≤ m) (hm : m ≤ 65535) : 0 ≤ bits .and .i64 x m ∧ bits .and .i64 x m ≤ m := by
  have e : bits .and .i64 x m = IntKind.i64.wrap (((BitVec.ofInt 64 x) &&& (BitVec.ofInt 64 m)).toNat : Nat) := rfl
  have h1 : (BitVec.ofInt 64 m).toNat = m.toNat := by
    rw [BitVec.toNat_ofInt]
    have : m % ((2 ^ 64 : Nat) : Int) = m := Int.emod_eq_of_lt h0 (by omega)
    rw [this]
  have h2 : ((BitVec.ofInt 64 x) &&& (BitVec.ofInt 64 m)).toNat ≤ m.toNat := by
    rw [BitVec.toNat_and, h1]
    exact Nat.and_le_right
  have h3 : IntKind.i64.wrap (((BitVec.ofInt 64 x) &&& (BitVec.ofInt 64 m)).toNat : Nat) = (((BitVec.ofInt 64 x) &&& (BitVec.ofInt 64 m)).toNat : Nat) := by
    generalize ((BitVec.ofInt 64 x) &&& (BitVec.ofInt 64 m)).toNat = y at *
    simp [IntKind.wrap, IntKind.bits, IntKind.signed]
    omega
  rw [e, h3]
  omega
/-- a node that was turned -/
structure TdN (n n' : Nd) : Prop where
  kd : n'.kind = n.kind
  kids : n'.kids = n.kids
  pos : 0 ≤ n'.pos ∧ n'.pos ≤ 65535
  nm : n.kind ≠ 3 → n'.name = n.name
  nm3 : n.kind = 3 → n'.name = ⟨#[84]⟩
  num : n.kind ≠ 11 → n.kind ≠ 21 → n'.num = n.num
  n11 : n.kind = 11 → 0 ≤ n'.num ∧ n'.num ≤ 255
  n21 : n.kind = 21 → (n.num = 3 ∧ n'.num = 3) ∨ (n.num ≠ 3 ∧ (n'.num = 1 ∨ n'.num = 2))
theorem nameT : nameFitsI 3 ⟨#[84]⟩ = true := by
  unfold nameFitsI
  rw [if_neg (by omega), if_pos (.inl rfl)]
  kernel_rfl
theorem TdN.wf {n n' : Nd} (h : TdN n n') (hw : NdWf n) : NdWf n' := by
  obtain ⟨h1, h2⟩ := hw.num
  have h3 := h.pos
  refine ⟨by rw [h.kd]; exact hw.kind, ⟨by omega, by omega⟩, ?_, ?_, by rw [h.kids]; exact hw.kids⟩
  · by_cases e1 : n.kind = 11
    · have := h.n11 e1; exact ⟨by omega, by omega⟩
    · by_cases e2 : n.kind = 21
      · have := h.n21 e2; exact ⟨by omega, by omega⟩
      · rw [h.num e1 e2]; exact hw.num
  · by_cases e1 : n.kind = 3
    · rw [h.nm3 e1]; decide
    · rw [h.nm e1]; exact hw.name
theorem tn_of {l : List Nd} {f : Nat → Nd} (h : ∀ j, j < l.length → TdN (ndN l j) (f j)) : Tn l (lst l.length f) ∧ ∀ i, kdN l i ≠ 3 → (ndN (lst l.length f) i).name = (ndN l i).name := by
  have at_ : ∀ j, (j < l.length ∧ TdN (ndN l j) (ndN (lst l.length f) j)) ∨ (l.length ≤ j ∧ ndN (lst l.length f) j = ndN l j) := fun j => by
    by_cases hj : j < l.length
    · exact .inl ⟨hj, by rw [lst_nd f hj]; exact h j hj⟩
    · exact .inr ⟨by omega, by rw [lst_no f (by omega), nd_no (by omega)]⟩
  have k0 : ∀ j, l.length ≤ j → kdN l j = 0 := fun j hj => by unfold kdN; rw [nd_no hj]; rfl
  refine ⟨⟨lst_len _ _, fun i => ?_, fun i => ?_, fun i hi _ => ?_, fun i hi hf => ?_, fun i h1 h2 => ?_, fun i hi h1 _ => ?_, fun i h1 => ?_⟩, fun i h1 => ?_⟩
  · rcases at_ i with ⟨_, q⟩ | ⟨_, q⟩
    · exact q.kd
    · unfold kdN; rw [q]
  · rcases at_ i with ⟨_, q⟩ | ⟨_, q⟩
    · exact q.kids
    · rw [q]
  · rcases at_ i with ⟨_, q⟩ | ⟨q, _⟩
    · exact q.pos.1
    · omega
  · rcases at_ i with ⟨_, q⟩ | ⟨q, _⟩
    · by_cases e : kdN l i = 3
      · rw [e, q.nm3 e]; exact nameT
      · rw [q.nm e]; exact hf
    · omega
  · rcases at_ i with ⟨_, q⟩ | ⟨_, q⟩
    · exact q.num h1 h2
    · rw [q]
  · rcases at_ i with ⟨_, q⟩ | ⟨q, _⟩
    · exact (q.n11 h1).1
    · omega
  · rcases at_ i with ⟨_, q⟩ | ⟨q, _⟩
    · rcases q.n21 h1 with ⟨a, b⟩ | ⟨a, b⟩
      · rw [a, b]; exact ⟨Int.le_refl _, rfl⟩
      · have le : levelI 21 (ndN l i).num ≤ 6 := by unfold levelI; simp; split <;> omega
        have e1 : ((ndN l i).num == 3) = false := by rw [beq_eq_false_iff_ne]; exact a
        rw [e1]
        rcases b with b | b <;> rw [b]
        · exact ⟨by show _ ≤ (6 : Int); exact le, rfl⟩
        · exact ⟨by show _ ≤ (6 : Int); exact le, rfl⟩
    · rw [k0 i q] at h1; omega
  · rcases at_ i with ⟨_, q⟩ | ⟨_, q⟩
    · exact q.nm h1
    · rw [q]
/-- in the midst of the turning -/
structure LT (W3 wr : World) (ab : Nat) (l : List Nd) (kb kc : Nat → Nat) (k : Nat) : Prop where
  ex : ∃ f, LN wr ab l.length f kb kc ∧ ∀ j, j < l.length → (j < k → TdN (ndN l j) (f j)) ∧ (k ≤ j → f j = ndN l j)
  bel : Below W3.heap.size W3 wr
  lo : W3.heap.size ≤ ab
theorem LT.step {W3 wr wr' : World} {ab : Nat} {l : List Nd} {kb kc : Nat → Nat} {k : Nat} (h : LT W3 wr ab l kb kc k) (hk : k < l.length) (hb : Below W3.heap.size W3 wr') (n : Nd) (hn : TdN (ndN l k) n) (hL : ∀ f, LN wr ab l.length f kb kc → f k = ndN l k → LN wr' ab l.length (upd f k n) kb kc) : LT W3 wr' ab l kb kc (k + 1) := by
  obtain ⟨f, h1, h2⟩ := h.ex
  refine ⟨⟨upd f k n, hL f h1 ((h2 k hk).2 (Nat.le_refl _)), fun j hj => ?_⟩, hb, h.lo⟩
  by_cases e : j = k
  · subst e
    rw [upd_same]
    exact ⟨fun _ => hn, fun h => absurd h (by omega)⟩
  · rw [upd_other e]
    exact ⟨fun h => (h2 j hj).1 (by omega), fun h => (h2 j hj).2 (by omega)⟩
theorem LT.cell {W3 wr : World} {ab : Nat} {l : List Nd} {kb kc : Nat → Nat} {k : Nat} (h : LT W3 wr ab l kb kc k) (hk : k < l.length) : wr.cell? ⟨ab, k * 5, none⟩ = some (.int .i64 (ndN l k).kind) ∧ wr.cell? ⟨ab, k * 5 + 1, none⟩ = some (.int .i64 (ndN l k).pos) ∧ wr.cell? ⟨ab, k * 5 + 3, none⟩ = some (.string (ndN l k).name) ∧ wr.cell? ⟨ab, k * 5 + 4, none⟩ = some (.int .i64 (ndN l k).num) ∧ (∀ i, wr.frozen? ⟨ab, i, none⟩ = false) := by
  obtain ⟨f, h1, h2⟩ := h.ex
  have e := (h2 k hk).2 (Nat.le_refl _)
  have c := fun q hq => h1.cell hk (q := q) hq
  rw [e] at c
  exact ⟨c 0 (by omega), c 1 (by omega), c 3 (by omega), c 4 (by omega), h1.frozen⟩
theorem upd_upd {α : Type} (f : Nat → α) (k : Nat) (a b : α) : upd (upd f k a) k b = upd f k b := by
  funext j
  unfold upd
  split <;> rfl
theorem set_bel {W3 wr : World} {ab i : Nat} {v : Value} (h : Below W3.heap.size W3 wr) (hlo : W3.heap.size ≤ ab) : Below W3.heap.size W3 (wr.setCell ⟨ab, i, none⟩ v) := Below.setCell (p := ⟨ab, i, none⟩) h hlo v
section
variable {W3 wr : World} {ab : Nat} {l : List Nd} {kb kc : Nat → Nat} {k : Nat}
theorem LT.s0 (h : LT W3 wr ab l kb kc k) (hk : k < l.length) (x : Int) (hx : 0 ≤ x ∧ x ≤ 65535) (h1 : (ndN l k).kind ≠ 11) (h2 : (ndN l k).kind ≠ 21 ∨ (ndN l k).num = 3) (h3 : (ndN l k).kind ≠ 3) : LT W3 (wr.setCell ⟨ab, k * 5 + 1, none⟩ (.int .i64 x)) ab l kb kc (k + 1) := by
  refine h.step hk (set_bel h.bel h.lo) { ndN l k with pos := x } ⟨rfl, rfl, hx, fun _ => rfl, fun e => absurd e h3, fun _ _ => rfl, fun e => absurd e h1, fun e => ?_⟩ fun f hf e => ?_
  · rcases h2 with q | q
    · exact absurd e q
    · exact .inl ⟨q, q⟩
  · have := hf.pos hk x
    rw [e] at this
    exact this
theorem LT.s3 (h : LT W3 wr ab l kb kc k) (hk : k < l.length) (x : Int) (hx : 0 ≤ x ∧ x ≤ 65535) (h3 : (ndN l k).kind = 3) : LT W3 ((wr.setCell ⟨ab, k * 5 + 1, none⟩ (.int .i64 x)).setCell ⟨ab, k * 5 + 3, none⟩ (.string ⟨#[84]⟩)) ab l kb kc (k + 1) := by
  refine h.step hk (set_bel (set_bel h.bel h.lo) h.lo) { ndN l k with pos := x, name := ⟨#[84]⟩ } ⟨rfl, rfl, hx, fun q => absurd h3 q, fun _ => rfl, fun _ _ => rfl, fun e => by omega, fun e => by omega⟩ fun f hf e => ?_
  have := (hf.pos hk x).name hk ⟨#[84]⟩
  rw [upd_same, upd_upd, e] at this
  exact this
theorem LT.s4 (h : LT W3 wr ab l kb kc k) (hk : k < l.length) (x y : Int) (hx : 0 ≤ x ∧ x ≤ 65535) (h1 : ((ndN l k).kind = 11 ∧ 0 ≤ y ∧ y ≤ 255) ∨ ((ndN l k).kind = 21 ∧ (ndN l k).num ≠ 3 ∧ (y = 1 ∨ y = 2))) : LT W3 ((wr.setCell ⟨ab, k * 5 + 1, none⟩ (.int .i64 x)).setCell ⟨ab, k * 5 + 4, none⟩ (.int .i64 y)) ab l kb kc (k + 1) := by
  refine h.step hk (set_bel (set_bel h.bel h.lo) h.lo) { ndN l k with pos := x, num := y } ⟨rfl, rfl, hx, fun _ => rfl, fun e => by omega, fun _ _ => by omega, fun e => ?_, fun e => ?_⟩ fun f hf e => ?_
  · rcases h1 with q | q
    · exact q.2
    · omega
  · rcases h1 with q | q
    · omega
    · exact .inr ⟨q.2.1, q.2.2⟩
  · have := (hf.pos hk x).num hk y
    rw [upd_same, upd_upd, e] at this
    exact this
end
end Go.Proofs.YtjjbgbadkbomlaaDoor
namespace Go.Proofs.YtjjbgbadkbomlaaDoor
open Go.RowKit
set_option linter.unusedVariables false
set_option linter.unusedSimpArgs false

/-- two blocks behind all others -/
theorem pair_in (W : World) (c1 c2 : Array Value) (t1 t2 : TypeId) : ∃ W', (W.alloc (.cells c1 t1)).alloc (.cells c2 t2) = W' ∧ Below W.heap.size W W' ∧ W'.heap[W.heap.size]? = some (.cells c1 t1 (0, 0)) ∧ W'.heap[W.heap.size + 1]? = some (.cells c2 t2 (0, 0)) ∧ W'.heap.size = W.heap.size + 2 := pair_at W c1 c2 t1 t2
/-- .. of which the other is written, as it was -/
theorem pair_on (W : World) (c1 : Array Value) (t1 t2 : TypeId) : ∃ W' W'', (W.alloc (.cells c1 t1)).alloc (.cells #[.int .i64 0, .int .i64 0] t2) = W' ∧ W'.cell? ⟨W.heap.size + 1, 0, none⟩ = some (.int .i64 0) ∧ W'.cell? ⟨W.heap.size + 1, 1, none⟩ = some (.int .i64 0) ∧ (∀ i, W'.frozen? ⟨W.heap.size + 1, i, none⟩ = false) ∧ (W'.setCell ⟨W.heap.size + 1, 0, none⟩ (.int .i64 0)).setCell ⟨W.heap.size + 1, 1, none⟩ (.int .i64 0) = W'' ∧ Below W.heap.size W W'' ∧ W''.heap[W.heap.size]? = some (.cells c1 t1 (0, 0)) ∧ W''.heap[W.heap.size + 1]? = some (.cells #[.int .i64 0, .int .i64 0] t2 (0, 0)) ∧ W''.heap.size = W.heap.size + 2 := by
  obtain ⟨W', e, b, g0, g1, s1⟩ := pair_at W c1 #[.int .i64 0, .int .i64 0] t1 t2
  refine ⟨W', _, e, (cell_of_row W' _ 0 _ _ _ g1).trans rfl, (cell_of_row W' _ 1 _ _ _ g1).trans rfl, fun i => by simp [World.frozen?, g1], rfl, ?_, ?_, ?_, by simp [s1]⟩
  · exact Below.setCell (p := ⟨W.heap.size + 1, 1, none⟩) (Below.setCell (p := ⟨W.heap.size + 1, 0, none⟩) b (Nat.le_succ _) _) (Nat.le_succ _) _
  · rw [heap_setCell_other _ _ _ _ (show W.heap.size ≠ W.heap.size + 1 by omega), heap_setCell_other _ _ _ _ (show W.heap.size ≠ W.heap.size + 1 by omega)]
    exact g0
  · rw [heap_setCell_same _ _ _ _ _ _ (heap_setCell_same _ _ _ _ _ _ g1)]
    simp
set_option maxRecDepth 100000 in
set_option maxHeartbeats 4000000 in
theorem blind_ok (w : World) (B nb no nc : Nat) (l : List Nd) (turn : Int) (hn : Nodes w B nb no nc l) (hL : Laid w) (h0 : 0 < l.length) (hbk : bulkL l ≤ 2147483647) (ht : I64 turn) (hc : (checkAll l).2 = 0) (hf : (namesS l).flt.2 = 0) :
    Calls Tryd.prog 4 #[.slice (some ⟨nb, no, none⟩) l.length nc, .int .i64 turn] w fun e w' => e = .returned (.bool true) ∧ Below w.heap.size w w' := by
  have hB := hn.hi
  have hl31 : l.length ≤ 2147483647 := by have := bulk_len l; omega
  have HBY : Bx (Calls Tryd.prog 7 #[.slice (some ⟨nb, no, none⟩) l.length nc] w fun e w' => e = .returned (.bool false) ∧ w = w') := ⟨by
    have := beyond_some w B nb no nc l hn
    rw [decide_eq_false (by omega)] at this
    exact this⟩
  have HSH := Bx.mk (shown_any w hL)
  have HN1 : Bx (∀ W1, Below w.heap.size w W1 → _) := ⟨fun W1 b1 => names_ok (w := W1) (B := B) (a := some ⟨nb, no, none⟩) (cap := nc) (l := l) ⟨fun _ => ⟨nb, no, rfl, hn.below (b1.mono hB)⟩, by have := b1.size; omega⟩ (hL.below b1) hl31 hc hf⟩
  have HLD : Bx (∀ W3, Below w.heap.size w W3 → _) := ⟨fun W3 b3 => lend_any W3 B nb no nc l (hn.below (b3.mono hB)) h0 hl31 (fun j hj => by have := (bulk_kids hj hbk).1; omega)⟩
  unfold fltV at HN1
  have HWF := Bx.mk hn.wf
  have HLL := Bx.mk hL
  clear hn hL
  go_enter Tryd.func4, Tryd.ntmps4
  go_wp2_with (first
    | (go_at_call 7; refine Calls.mono HBY.out ?_; rintro e w' ⟨rfl, rfl⟩; clear HBY)
    | (go_at_call 8; refine Calls.mono HSH.out ?_; rintro e W1 ⟨rfl, b1⟩; replace b1 := Bx.mk b1; clear HSH)
    | (go_at_call 9; refine Calls.mono (HN1.out _ b1.out) ?_; rintro e W2 ⟨⟨rb, fb, fv, rfl, hnm⟩, b2⟩; replace hnm := Bx.mk hnm; replace b2 := Bx.mk b2; clear HN1)
    | (go_at_call 13; obtain ⟨W3, hW3, b3, q0, q1, s3⟩ := pair_in W2 #[.slice (some ⟨rb, 0, none⟩) l.length l.length, .slice (some ⟨fb, 0, none⟩) l.length l.length] #[.int .i64 0, .int .i64 0] 28 31; rw [hW3]; have B3 : Below w.heap.size w W3 := (by have z1 := b1.out.size; have z2 := b2.out.size; exact b1.out.trans ((b2.out.mono z1).trans (b3.mono (by omega)))); refine Calls.mono (HLD.out W3 B3) ?_; rintro e W4 ⟨ab, cap, gb, cb, kb, kc, rfl, hln, hcap, b4, hab⟩; clear hW3; replace q0 := Bx.mk q0; replace q1 := Bx.mk q1; replace b3 := Bx.mk b3; replace B3 := Bx.mk B3; replace hln := Bx.mk hln; replace b4 := Bx.mk b4; clear HLD))
  have H0 : Bx (∀ o, LT W3 (W4.alloc o) ab l kb kc 0) := ⟨fun o => ⟨⟨ndN l, hln.out.below (below1 W4 o), fun j hj => ⟨fun h => absurd h (by omega), fun _ => rfl⟩⟩, b4.out.trans ((below1 W4 o).mono b4.out.size), hab⟩⟩
  go_loopw [9] (fun x wr => ∃ k : Nat, k ≤ l.length ∧ x = .int .i64 k ∧ Bx (LT W3 wr ab l kb kc k)) (fun x _ => l.length - (intOf x).toNat)
  case atStart => exact ⟨0, Nat.zero_le _, rfl, ⟨H0.out _⟩⟩
  case round =>
    obtain ⟨k, hk, rfl, HL⟩ := hrel
    clear H0
    by_cases hlt : k < l.length
    · obtain ⟨c0, c1, c3, c4, fz⟩ := HL.out.cell hlt
      have hab2 := HL.out.lo
      clear b1 b2 b3 b4 hnm q0 q1 B3 hln
      have a16 : ∀ x, 0 ≤ bits .and .i64 x 65535 ∧ bits .and .i64 x 65535 ≤ 65535 := fun x => and_bound x 65535 (by omega) (by omega)
      have A16 := Bx.mk a16
      have a8 := and_bound turn 255 (by omega) (by omega)
      have a1 := and_bound turn 1 (by omega) (by omega)
      clear a16
      by_cases e1 : (ndN l k).kind = 11
      · go_wp2
        refine ⟨⟨k + 1, by omega, by go_num, ⟨HL.out.s4 hlt _ _ (A16.out _) (.inl ⟨e1, a8⟩)⟩⟩, ?_⟩
        simp [intOf]; omega
      · have d1 : ((ndN l k).kind == 11) = false := by rw [beq_eq_false_iff_ne]; exact e1
        by_cases e2 : (ndN l k).kind = 21
        · by_cases e3 : (ndN l k).num = 3
          · have d2 : ((ndN l k).num != 3) = false := by rw [e3]; rfl
            go_wp2
            refine ⟨⟨k + 1, by omega, by go_num, ⟨HL.out.s0 hlt _ (A16.out _) e1 (.inr e3) (by omega)⟩⟩, ?_⟩
            simp [intOf]; omega
          · have d2 : ((ndN l k).num != 3) = true := by rw [bne_iff_ne]; exact e3
            go_wp2
            refine ⟨⟨k + 1, by omega, by go_num, ⟨HL.out.s4 hlt _ _ (A16.out _) (.inr ⟨e2, e3, by omega⟩)⟩⟩, ?_⟩
            simp [intOf]; omega
        · have d2 : ((ndN l k).kind == 21) = false := by rw [beq_eq_false_iff_ne]; exact e2
          by_cases e3 : (ndN l k).kind = 3
          · go_wp2
            refine ⟨⟨k + 1, by omega, by go_num, ⟨HL.out.s3 hlt _ (A16.out _) e3⟩⟩, ?_⟩
            simp [intOf]; omega
          · have d3 : ((ndN l k).kind == 3) = false := by rw [beq_eq_false_iff_ne]; exact e3
            go_wp2
            refine ⟨⟨k + 1, by omega, by go_num, ⟨HL.out.s0 hlt _ (A16.out _) e1 (.inl e2) e3⟩⟩, ?_⟩
            simp [intOf]; omega
    · have hke : k = l.length := by omega
      subst hke
      obtain ⟨f, hf1, hf2⟩ := HL.out.ex
      have bel := HL.out.bel
      have hT := tn_of (l := l) (f := f) fun j hj => (hf2 j hj).1 hj
      have hsame := names_sm (hT.1.bl hT.2)
      have hc0 : checkAll l = (0, 0) := check_zero _ _ hc
      have hc' := hT.1.check hc0
      have HN2 : Bx (Calls Tryd.prog 9 #[.slice (some ⟨ab, 0, none⟩) l.length cap] wr fun e w' => (∃ rb fb fv, e = .returned (.tuple #[.agg #[.slice (some ⟨rb, 0, none⟩) l.length l.length, .slice (some ⟨fb, 0, none⟩) l.length l.length], fltV 0 0]) ∧ NmR wr.heap.size l.length w' (namesS (lst l.length f)) rb fb fv) ∧ Below wr.heap.size wr w') := ⟨by
        have hnd := hf1.nodes (nc := cap) (fun j hj => ((hf2 j hj).1 hj).wf (HWF.out j hj)) (fun j hj => by rw [((hf2 j hj).1 hj).kids]; have := (bulk_kids hj hbk).1; unfold maxLen; omega) (by unfold maxLen; omega) (by omega)
        have := names_ok (w := wr) (B := wr.heap.size) (a := some ⟨ab, 0, none⟩) (cap := cap) (l := lst l.length f) ⟨fun _ => ⟨ab, 0, rfl, hnd⟩, Nat.le_refl _⟩ (HLL.out.below (B3.out.trans (bel.mono B3.out.size))) (by rw [lst_len]; exact hl31) (by rw [hc']) (by rw [hsame.2.2]; exact hf)
        rw [lst_len] at this
        exact this⟩
      unfold fltV at HN2
      have HE : Bx (∀ W7 rb' fb' fv', NmR wr.heap.size l.length W7 (namesS (lst l.length f)) rb' fb' fv' → Below wr.heap.size wr W7 → ∃ W8a W8, (W7.alloc (.cells #[.slice (some ⟨rb', 0, none⟩) l.length l.length, .slice (some ⟨fb', 0, none⟩) l.length l.length] 28)).alloc (.cells #[.int .i64 0, .int .i64 0] 31) = W8a ∧ W8a.cell? ⟨W7.heap.size + 1, 0, none⟩ = some (.int .i64 0) ∧ W8a.cell? ⟨W7.heap.size + 1, 1, none⟩ = some (.int .i64 0) ∧ (∀ i, W8a.frozen? ⟨W7.heap.size + 1, i, none⟩ = false) ∧ (W8a.setCell ⟨W7.heap.size + 1, 0, none⟩ (.int .i64 0)).setCell ⟨W7.heap.size + 1, 1, none⟩ (.int .i64 0) = W8 ∧ W8.cell? ⟨W2.heap.size, 0, none⟩ = some (.slice (some ⟨rb, 0, none⟩) l.length l.length) ∧ W8.cell? ⟨W2.heap.size, 1, none⟩ = some (.slice (some ⟨fb, 0, none⟩) l.length l.length) ∧ W8.cell? ⟨W7.heap.size, 0, none⟩ = some (.slice (some ⟨rb', 0, none⟩) l.length l.length) ∧ W8.cell? ⟨W7.heap.size, 1, none⟩ = some (.slice (some ⟨fb', 0, none⟩) l.length l.length) ∧ W8.cell? ⟨W7.heap.size + 1, 0, none⟩ = some (.int .i64 0) ∧ W8.cell? ⟨W7.heap.size + 1, 1, none⟩ = some (.int .i64 0) ∧
          Bx (Calls Tryd.prog 14 #[.agg #[.slice (some ⟨rb, 0, none⟩) l.length l.length, .slice (some ⟨fb, 0, none⟩) l.length l.length], .agg #[.slice (some ⟨rb', 0, none⟩) l.length l.length, .slice (some ⟨fb', 0, none⟩) l.length l.length]] W8 fun e w' => e = .returned (.bool true) ∧ Below w.heap.size w w')) := ⟨fun W7 rb' fb' fv' hnm' b7 => by
        obtain ⟨W8a, W8, hW8a, p0, p1, pf, hW8, b8, g0, g1, s8⟩ := pair_on W7 #[.slice (some ⟨rb', 0, none⟩) l.length l.length, .slice (some ⟨fb', 0, none⟩) l.length l.length] 28 31
        have z1 := b1.out.size
        have z2 := b2.out.size
        have zr := bel.size
        have z7 := b7.size
        have b38 : Below W3.heap.size W3 W8 := bel.trans ((b7.mono (by omega)).trans (b8.mono (by omega)))
        have g2 : W8.heap[W2.heap.size]? = _ := (b38.block _ (by omega)).trans q0.out
        have b28 : Below W2.heap.size W2 W8 := b3.out.trans (b38.mono (by omega))
        refine ⟨W8a, W8, hW8a, p0, p1, pf, hW8, (cell_of_row W8 _ 0 _ _ _ g2).trans rfl, (cell_of_row W8 _ 1 _ _ _ g2).trans rfl, (cell_of_row W8 _ 0 _ _ _ g0).trans rfl, (cell_of_row W8 _ 1 _ _ _ g0).trans rfl, (cell_of_row W8 _ 0 _ _ _ g1).trans rfl, (cell_of_row W8 _ 1 _ _ _ g1).trans rfl, ⟨?_⟩⟩
        have zw := B3.out.size
        exact (same_told hnm.out hnm' hsame.1 hsame.2.1 (names_wf hc).refl_ hl31 b28 b8).mono fun e w' ⟨he, hb⟩ => ⟨he, B3.out.trans ((b38.mono zw).trans (hb.mono (by omega)))⟩⟩
      clear hf1 hf2 hT hsame hc' hc0 HL bel b1 b2 b3 b4 hnm q0 q1 B3 hln HWF HLL
      go_wp2_with (first
        | (go_at_call 9; refine Calls.mono HN2.out ?_; rintro e W7 ⟨⟨rb', fb', fv', rfl, hnm'⟩, b7⟩; obtain ⟨W8a, W8, hW8a, p0, p1, pf, hW8, x1, x2, x3, x4, x5, x6, HS⟩ := HE.out W7 rb' fb' fv' hnm' b7; clear HN2 HE hnm' b7)
        | (go_at_call 14; refine Calls.mono HS.out ?_; rintro e W9 ⟨rfl, b9⟩; clear HS))
      go_ret
      exact ⟨rfl, b9⟩
end Go.Proofs.YtjjbgbadkbomlaaDoor
