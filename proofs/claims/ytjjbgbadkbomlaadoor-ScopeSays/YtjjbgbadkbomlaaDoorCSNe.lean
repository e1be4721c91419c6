import Derived.Test.YtjjbgbadkbomlaaDoorCSNc
import Derived.Test.YtjjbgbadkbomlaaDoorCSW7
namespace Go.Proofs.YtjjbgbadkbomlaaDoor
open Go.RowKit Go.Maps
set_option linter.unusedVariables false
set_option linter.unusedSimpArgs false

theorem act39 (a : Act) (h : a.tmps.size = 39) (hd : a.defers = []) : ∃ x0 x1 x2 x3 x4 x5 x6 x7 x8 x9 x10 x11 x12 x13 x14 x15 x16 x17 x18 x19 x20 x21 x22 x23 x24 x25 x26 x27 x28 x29 x30 x31 x32 x33 x34 x35 x36 x37 x38 : Value, a = { tmps := #[x0, x1, x2, x3, x4, x5, x6, x7, x8, x9, x10, x11, x12, x13, x14, x15, x16, x17, x18, x19, x20, x21, x22, x23, x24, x25, x26, x27, x28, x29, x30, x31, x32, x33, x34, x35, x36, x37, x38], defers := [] } := by
  obtain ⟨⟨l⟩, d⟩ := a
  simp only [] at hd
  subst hd
  replace h : l.length = 38 + 1 := by simpa using h
  obtain ⟨x0, l, rfl⟩ := List.exists_cons_of_length_eq_add_one h
  replace h : l.length = 37 + 1 := by simpa using h
  obtain ⟨x1, l, rfl⟩ := List.exists_cons_of_length_eq_add_one h
  replace h : l.length = 36 + 1 := by simpa using h
  obtain ⟨x2, l, rfl⟩ := List.exists_cons_of_length_eq_add_one h
  replace h : l.length = 35 + 1 := by simpa using h
  obtain ⟨x3, l, rfl⟩ := List.exists_cons_of_length_eq_add_one h
  replace h : l.length = 34 + 1 := by simpa using h
  obtain ⟨x4, l, rfl⟩ := List.exists_cons_of_length_eq_add_one h
  replace h : l.length = 33 + 1 := by simpa using h
  obtain ⟨x5, l, rfl⟩ := List.exists_cons_of_length_eq_add_one h
  replace h : l.length = 32 + 1 := by simpa using h
  obtain ⟨x6, l, rfl⟩ := List.exists_cons_of_length_eq_add_one h
  replace h : l.length = 31 + 1 := by simpa using h
  obtain ⟨x7, l, rfl⟩ := List.exists_cons_of_length_eq_add_one h
  replace h : l.length = 30 + 1 := by simpa using h
  obtain ⟨x8, l, rfl⟩ := List.exists_cons_of_length_eq_add_one h
  replace h : l.length = 29 + 1 := by simpa using h
  obtain ⟨x9, l, rfl⟩ := List.exists_cons_of_length_eq_add_one h
  replace h : l.length = 28 + 1 := by simpa using h
  obtain ⟨x10, l, rfl⟩ := List.exists_cons_of_length_eq_add_one h
  replace h : l.length = 27 + 1 := by simpa using h
  obtain ⟨x11, l, rfl⟩ := List.exists_cons_of_length_eq_add_one h
  replace h : l.length = 26 + 1 := by simpa using h
  obtain ⟨x12, l, rfl⟩ := List.exists_cons_of_length_eq_add_one h
  replace h : l.length = 25 + 1 := by simpa using h
  obtain ⟨x13, l, rfl⟩ := List.exists_cons_of_length_eq_add_one h
  replace h : l.length = 24 + 1 := by simpa using h
  obtain ⟨x14, l, rfl⟩ := List.exists_cons_of_length_eq_add_one h
  replace h : l.length = 23 + 1 := by simpa using h
  obtain ⟨x15, l, rfl⟩ := List.exists_cons_of_length_eq_add_one h
  replace h : l.length = 22 + 1 := by simpa using h
  obtain ⟨x16, l, rfl⟩ := List.exists_cons_of_length_eq_add_one h
  replace h : l.length = 21 + 1 := by simpa using h
  obtain ⟨x17, l, rfl⟩ := List.exists_cons_of_length_eq_add_one h
  replace h : l.length = 20 + 1 := by simpa using h
  obtain ⟨x18, l, rfl⟩ := List.exists_cons_of_length_eq_add_one h
  replace h : l.length = 19 + 1 := by simpa using h
  obtain ⟨x19, l, rfl⟩ := List.exists_cons_of_length_eq_add_one h
  replace h : l.length = 18 + 1 := by simpa using h
  obtain ⟨x20, l, rfl⟩ := List.exists_cons_of_length_eq_add_one h
  replace h : l.length = 17 + 1 := by simpa using h
  obtain ⟨x21, l, rfl⟩ := List.exists_cons_of_length_eq_add_one h
  replace h : l.length = 16 + 1 := by simpa using h
  obtain ⟨x22, l, rfl⟩ := List.exists_cons_of_length_eq_add_one h
  replace h : l.length = 15 + 1 := by simpa using h
  obtain ⟨x23, l, rfl⟩ := List.exists_cons_of_length_eq_add_one h
  replace h : l.length = 14 + 1 := by simpa using h
  obtain ⟨x24, l, rfl⟩ := List.exists_cons_of_length_eq_add_one h
  replace h : l.length = 13 + 1 := by simpa using h
  obtain ⟨x25, l, rfl⟩ := List.exists_cons_of_length_eq_add_one h
  replace h : l.length = 12 + 1 := by simpa using h
  obtain ⟨x26, l, rfl⟩ := List.exists_cons_of_length_eq_add_one h
  replace h : l.length = 11 + 1 := by simpa using h
  obtain ⟨x27, l, rfl⟩ := List.exists_cons_of_length_eq_add_one h
  replace h : l.length = 10 + 1 := by simpa using h
  obtain ⟨x28, l, rfl⟩ := List.exists_cons_of_length_eq_add_one h
  replace h : l.length = 9 + 1 := by simpa using h
  obtain ⟨x29, l, rfl⟩ := List.exists_cons_of_length_eq_add_one h
  replace h : l.length = 8 + 1 := by simpa using h
  obtain ⟨x30, l, rfl⟩ := List.exists_cons_of_length_eq_add_one h
  replace h : l.length = 7 + 1 := by simpa using h
  obtain ⟨x31, l, rfl⟩ := List.exists_cons_of_length_eq_add_one h
  replace h : l.length = 6 + 1 := by simpa using h
  obtain ⟨x32, l, rfl⟩ := List.exists_cons_of_length_eq_add_one h
  replace h : l.length = 5 + 1 := by simpa using h
  obtain ⟨x33, l, rfl⟩ := List.exists_cons_of_length_eq_add_one h
  replace h : l.length = 4 + 1 := by simpa using h
  obtain ⟨x34, l, rfl⟩ := List.exists_cons_of_length_eq_add_one h
  replace h : l.length = 3 + 1 := by simpa using h
  obtain ⟨x35, l, rfl⟩ := List.exists_cons_of_length_eq_add_one h
  replace h : l.length = 2 + 1 := by simpa using h
  obtain ⟨x36, l, rfl⟩ := List.exists_cons_of_length_eq_add_one h
  replace h : l.length = 1 + 1 := by simpa using h
  obtain ⟨x37, l, rfl⟩ := List.exists_cons_of_length_eq_add_one h
  replace h : l.length = 0 + 1 := by simpa using h
  obtain ⟨x38, l, rfl⟩ := List.exists_cons_of_length_eq_add_one h
  replace h : l.length = 0 := by simpa using h
  obtain rfl := List.eq_nil_of_length_eq_zero h
  exact ⟨x0, x1, x2, x3, x4, x5, x6, x7, x8, x9, x10, x11, x12, x13, x14, x15, x16, x17, x18, x19, x20, x21, x22, x23, x24, x25, x26, x27, x28, x29, x30, x31, x32, x33, x34, x35, x36, x37, x38, rfl⟩
/-- the walk's beginning -/
def startS (l : List Nd) : SSt := { ms := [⟨-2, 0, 0, none, 0⟩, ⟨-3, 0, 0, none, 0⟩], sc := nwSc true true, ref := List.replicate l.length (-1), free := List.replicate l.length [], flt := (0, 0), blocks := 0, dcl := [], gat := [], set := -1 }
theorem zeros_eq (n : Nat) : zeros n = (intsC (List.replicate n 0)).toArray := by
  apply Array.ext_getElem?
  intro j
  simp only [zeros, madeCells, intsC, List.map_replicate, List.getElem?_toArray, List.getElem?_replicate]
  by_cases h : j < n
  · simp [h, Nat.mod_one]
  · simp [h]
theorem zerosR_eq (n : Nat) : zerosR n = ((List.range n).map fun _ => (Value.slice none 0 0)).toArray := by
  apply Array.ext_getElem?
  intro j
  simp only [zerosR, madeCells, List.getElem?_toArray, List.getElem?_map]
  by_cases h : j < n
  · simp [h, Nat.mod_one]
  · simp [h]
def mixR (n k : Nat) : List Int := List.replicate k (-1) ++ List.replicate (n - k) 0
theorem mixR_set (n k : Nat) (h : k < n) : (mixR n k).set k (-1) = mixR n (k + 1) := by
  unfold mixR
  rw [List.set_append_right _ _ (by simp)]
  have e : n - k = (n - (k + 1)) + 1 := by omega
  rw [e, List.replicate_succ, List.length_replicate, Nat.sub_self, List.set_cons_zero, List.replicate_succ']
  simp
def RowI (W : World) (b : Nat) (xs : List Int) : Prop := W.heap[b]? = some (.cells (intsC xs).toArray 3 (0, 0))
theorem RowI.set {W : World} {b : Nat} {xs : List Int} (h : RowI W b xs) (i : Nat) (x : Int) : RowI (W.setCell ⟨b, i, none⟩ (.int .i64 x)) b (xs.set i x) := by
  unfold RowI
  rw [heap_setCell_same _ _ _ _ _ _ h]
  simp [intsC, List.map_set]
theorem RowI.cell {W : World} {b : Nat} {xs : List Int} (h : RowI W b xs) {i : Nat} (hi : i < xs.length) : W.cell? ⟨b, i, none⟩ = some (.int .i64 (xs.getD i 0)) ∧ W.frozen? ⟨b, i, none⟩ = false := by
  refine ⟨?_, by simp [World.frozen?, show W.heap[b]? = _ from h]⟩
  rw [cell_of_row W _ i _ _ _ h]
  simp [intsC, List.getD_eq_getElem?_getD, List.getElem?_eq_getElem hi]
/-- a walker at the beginning -/
theorem start_rel {B : Nat} {l : List Nd} {W w' Wf : World} {la : Option Addr} {lc : Nat} (hB : B ≤ W.heap.size) (hb : Below W.heap.size W w') (v : Value) (hF : F17 W (.slice la l.length lc) l.length v w') :
    ∃ b bA, v = .pointer (some ⟨b, 0, none⟩) ∧ w'.cell? ⟨b, 1, none⟩ = some (.slice (some ⟨bA, 0, none⟩) l.length l.length) ∧ b ≠ bA ∧ W.heap.size ≤ bA ∧ RowI w' bA (mixR l.length 0) ∧
      ∀ Wf, Onl bA w' Wf → RowI Wf bA (mixR l.length l.length) → ∃ G, G.wb = b ∧ SRel B (.slice la l.length lc) l.length Wf (startS l) G ∧ Below W.heap.size W Wf := by
  obtain ⟨b, x, y, z, rfl, cw, ⟨bA, rfl, cA⟩, ⟨bB, rfl, cB⟩, ⟨bM, D, mB, rfl, hbM, hown, hsz, hsc, h0, h1⟩⟩ := hF
  have c0 := h0 rfl
  have c1 := h1 rfl
  obtain ⟨es, cl, hM, hr⟩ := id hown
  have n1 : b ≠ bA := fun e => by have := cw.2; rw [e, cA.2] at this; simp at this
  have n2 : b ≠ bB := fun e => by have := cw.2; rw [e, cB.2] at this; simp at this
  have n3 : b ≠ bM := fun e => by have := cw.2; rw [e, hM] at this; cases this
  have n4 : b ≠ mB 0 := fun e => by have := cw.2; rw [e, c0.2] at this; simp at this
  have n5 : b ≠ mB 1 := fun e => by have := cw.2; rw [e, c1.2] at this; simp at this
  have n6 : bA ≠ bB := fun e => by have := cA.2; rw [e, cB.2] at this; simp at this
  have n7 : bA ≠ bM := fun e => by have := cA.2; rw [e, hM] at this; cases this
  have n8 : bA ≠ mB 0 := fun e => by have := cA.2; rw [e, c0.2] at this; simp at this
  have n9 : bA ≠ mB 1 := fun e => by have := cA.2; rw [e, c1.2] at this; simp at this
  have n10 : bB ≠ bM := fun e => by have := cB.2; rw [e, hM] at this; cases this
  have n11 : bB ≠ mB 0 := fun e => by have := cB.2; rw [e, c0.2] at this; simp at this
  have n12 : bB ≠ mB 1 := fun e => by have := cB.2; rw [e, c1.2] at this; simp at this
  have n13 : bM ≠ mB 0 := fun e => by rw [e, c0.2] at hM; cases hM
  have n14 : bM ≠ mB 1 := fun e => by rw [e, c1.2] at hM; cases hM
  have n15 : mB 0 ≠ mB 1 := fun e => by
    have := c0.2
    rw [e, c1.2] at this
    simp [mnV] at this
  refine ⟨b, bA, rfl, ?_, n1, cA.1, ?_, fun Wf ho hrow => ?_⟩
  · rw [cell_of_row _ _ 1 _ _ _ cw.2]; rfl
  · unfold RowI mixR
    rw [cA.2, zeros_eq]
    simp
  have hlt : ∀ (x : Nat) o, w'.heap[x]? = some o → x < Wf.heap.size := fun x o h => by rw [ho.size]; exact (Array.getElem?_eq_some_iff.1 h).1
  refine ⟨⟨fun x => if x = b then .wlk else if x = bM then .map else if x = bA then .ref else if x = bB then .free else if x = mB 0 then .mn 0 else if x = mB 1 then .mn 1 else .out, b, bM, bA, bB, mB, fun _ => .slice none 0 0, .slice none 0 0, .slice none 0 0, fun _ => 0, fun _ => 0, fun _ => 0, fun _ => .slice none 0 0, 0⟩, rfl, ?_, ho.bel _ _ cA.1 hb⟩
  refine ⟨fun x hx => ?_, by simp, by simp [n3.symm], by simp [n1.symm, n7], by simp [n2.symm, n6.symm, n10], fun m hm => ?_, fun i b hi hb => (by cases hb), fun b hb => (by cases hb), fun b hb => (by cases hb), fun k hk => (by cases hk), fun k hk => (by cases hk), fun k hk => (by cases hk), fun k b hk => (by cases hk), ?_, ?_, ?_, ?_, fun i hi => ?_, fun m hm => ?_, ⟨rfl, .inl ⟨rfl, rfl⟩⟩, ⟨rfl, .inl ⟨rfl, rfl⟩⟩, fun k hk => (by cases hk), fun k hk => (by cases hk), fun k hk => (by cases hk), fun k hk => (by cases hk), Nat.zero_le _⟩
  · simp only [] at hx
    split at hx
    · rename_i e; subst e; exact ⟨Nat.le_trans hB cw.1, hlt _ _ cw.2⟩
    split at hx
    · rename_i e; subst e; exact ⟨Nat.le_trans hB hbM, hlt _ _ hM⟩
    split at hx
    · rename_i e; subst e; exact ⟨Nat.le_trans hB cA.1, hlt _ _ cA.2⟩
    split at hx
    · rename_i e; subst e; exact ⟨Nat.le_trans hB cB.1, hlt _ _ cB.2⟩
    split at hx
    · rename_i e; subst e; exact ⟨Nat.le_trans hB c0.1, hlt _ _ c0.2⟩
    split at hx
    · rename_i e; subst e; exact ⟨Nat.le_trans hB c1.1, hlt _ _ c1.2⟩
    · exact absurd rfl hx
  · have hm : m = 0 ∨ m = 1 := by simp [startS] at hm; omega
    rcases hm with rfl | rfl
    · simp [n4.symm, n13.symm, n8.symm, n11.symm]
    · simp [n5.symm, n14.symm, n9.symm, n12.symm, n15.symm]
  · rw [ho.block _ n1, cw.2]; rfl
  · exact ⟨D, owns_same hown (ho.block _ n7.symm), hsz, hsc⟩
  · have : RowI Wf bA (mixR l.length l.length) := hrow
    unfold RowI mixR at this
    simpa [startS] using this
  · rw [ho.block _ n6.symm, cB.2, zerosR_eq]
  · have e : (startS l).free.getD i [] = [] := by
      simp only [startS, List.getD_eq_getElem?_getD, List.getElem?_replicate]
      split <;> rfl
    rw [e]
    exact ⟨rfl, .inl ⟨rfl, rfl⟩⟩
  · have hm : m = 0 ∨ m = 1 := by simp [startS] at hm; omega
    rcases hm with rfl | rfl
    · rw [ho.block _ n8.symm, c0.2]; rfl
    · rw [ho.block _ n9.symm, c1.2]; rfl
set_option maxHeartbeats 2000000 in
set_option maxRecDepth 100000 in
/-- **newWalker** -/
theorem newWalker_any {B : Nat} {l : List Nd} (W : World) (la : Option Addr) (lc : Nat) (hB : B ≤ W.heap.size) (hl : l.length ≤ 2147483647) :
    Calls Tryd.prog 18 #[.slice la l.length lc] W fun e W' => ∃ G, e = .returned (.pointer (some ⟨G.wb, 0, none⟩)) ∧ SRel B (.slice la l.length lc) l.length W' (startS l) G ∧ Below W.heap.size W W' := by
  have HR := Bx.mk fun (w' : World) (v : Value) (hb : Below W.heap.size W w') (hF : F17 W (.slice la l.length lc) l.length v w') => start_rel (Wf := w') hB hb v hF
  go_enter Tryd.func18, Tryd.ntmps18
  go_wp2
  refine nw_region hl _ _ rfl rfl rfl ?_
  intro a w' hsz hdf hb hF
  obtain ⟨x0, x1, x2, x3, x4, x5, x6, x7, x8, x9, x10, x11, x12, x13, x14, x15, x16, x17, x18, x19, x20, x21, x22, x23, x24, x25, x26, x27, x28, x29, x30, x31, x32, x33, x34, x35, x36, x37, x38, rfl⟩ := act39 a hsz hdf
  obtain ⟨b, bA, hv, hc1, hne, hbA, hrow, HE⟩ := HR.out w' _ hb hF
  have hv : x3 = .pointer (some ⟨b, 0, none⟩) := hv
  subst hv
  replace HE := Bx.mk HE
  have H0 : Bx (RowI w' bA (mixR l.length 0) ∧ Onl bA w' w') := ⟨hrow, Onl.refl _ _⟩
  clear hF HR hsz hdf hb hrow
  go_wp2
  go_loopw [27] (fun x wr => ∃ k : Nat, x = .int .i64 k ∧ k ≤ l.length ∧ Bx (RowI wr bA (mixR l.length k) ∧ Onl bA w' wr)) (fun x _ => l.length - (intOf x).toNat)
  case atStart => exact ⟨0, rfl, Nat.zero_le _, H0⟩
  case round =>
    obtain ⟨k, rfl, hk, HS⟩ := hrel
    by_cases hkl : k < l.length
    · have hcb : wr.cell? ⟨b, 1, none⟩ = some (.slice (some ⟨bA, 0, none⟩) l.length l.length) := by rw [World.cell?_of_block (HS.out.2.block b hne)]; exact hc1
      have hmx : k < (mixR l.length k).length := by simp [mixR]; omega
      obtain ⟨ck, fk⟩ := HS.out.1.cell hmx
      have HN : Bx (RowI (wr.setCell ⟨bA, k, none⟩ (.int .i64 (-1))) bA (mixR l.length (k + 1)) ∧ Onl bA w' (wr.setCell ⟨bA, k, none⟩ (.int .i64 (-1)))) := ⟨by rw [← mixR_set _ _ hkl]; exact HS.out.1.set k (-1), HS.out.2.trans (Onl.set _ _ _ _)⟩
      clear HS HE H0
      go_wp2
      go_roundw
      case rel => exact ⟨k + 1, by go_num, by omega, HN⟩
      case measure => simp [intOf]; omega
    · have hke : k = l.length := by omega
      have HZ : Bx (∃ G, G.wb = b ∧ SRel B (.slice la l.length lc) l.length wr (startS l) G ∧ Below W.heap.size W wr) := ⟨HE.out wr HS.out.2 (by rw [← hke]; rw [hke] at HS ⊢; exact HS.out.1)⟩
      clear HS HE H0
      go_wp2
      go_ret
      obtain ⟨G, e1, e2, e3⟩ := HZ.out
      exact ⟨G, by rw [e1]; rfl, e2, e3⟩
end Go.Proofs.YtjjbgbadkbomlaaDoor
namespace Go.Proofs.YtjjbgbadkbomlaaDoor
open Go.RowKit Go.Maps
set_option linter.unusedVariables false
set_option linter.unusedSimpArgs false

theorem IntsV.up {w : World} {B B' : Nat} {v : Value} {ks : List Int} (h : IntsV w B v ks) (hB : B ≤ B') : IntsV w B' v ks := by
  obtain ⟨a, cap, e, h1, h2, h3⟩ := h.ex
  refine ⟨a, cap, e, h1, h2, fun hp => ?_⟩
  obtain ⟨b, o, e2, hb, hc⟩ := h3 hp
  exact ⟨b, o, e2, Nat.lt_of_lt_of_le hb hB, hc⟩
theorem Nodes.up {w : World} {B B' nb no nc : Nat} {l : List Nd} (h : Nodes w B nb no nc l) (hB : B ≤ B') (hB' : B' ≤ w.heap.size) : Nodes w B' nb no nc l := by
  refine ⟨fun j hj => ?_, h.wf, Nat.lt_of_lt_of_le h.lo hB, hB', h.max, h.cap⟩
  obtain ⟨ka, kc, hn⟩ := h.at_ j hj
  exact ⟨ka, kc, ⟨hn.c0, hn.c1, hn.c2, hn.c3, hn.c4, hn.kids.up hB⟩⟩
def nilNames : Value := .agg #[.slice none 0 0, .slice none 0 0]
def fltV (p c : Int) : Value := .agg #[.int .i64 p, .int .i64 c]
/-- what stands in memory of the names that are told -/
structure NmR (B N : Nat) (W : World) (s : SSt) (rb fb : Nat) (fv : Nat → Value) : Prop where
  lo : B ≤ rb ∧ B ≤ fb
  ref : W.heap[rb]? = some (.cells (intsC s.ref).toArray 3 (0, 0))
  free : W.heap[fb]? = some (.cells ((List.range N).map fv).toArray 25 (0, 0))
  row : ∀ i, i < N → W.ownsRow B 3 1 (fv i) (s.free.getD i []).length (intsC (s.free.getD i []))
set_option maxHeartbeats 2000000 in
set_option maxRecDepth 100000 in
theorem Names_bad (W : World) (a : Option Addr) (n cap : Nat) (p c : Int) (hc : c ≠ 0) (HC : ∀ W1, Below W.heap.size W W1 → Calls Tryd.prog 17 #[.slice a n cap] W1 fun e w' => e = .returned (.tuple #[.int .i64 p, .int .i64 c]) ∧ Below W1.heap.size W1 w') :
    Calls Tryd.prog 9 #[.slice a n cap] W fun e W' => e = .returned (.tuple #[nilNames, fltV p c]) ∧ Below W.heap.size W W' := by
  obtain ⟨W1, hW1⟩ : ∃ W1, (W.alloc (.cells #[.slice none 0 0, .slice none 0 0] 28)).alloc (.cells #[.int .i64 0, .int .i64 0] 31) = W1 := ⟨_, rfl⟩
  have b1 : Below W.heap.size W W1 := by rw [← hW1]; exact ((Below.refl _ _).alloc (Nat.le_refl _) _).alloc (by simp) _
  have h1 : W1.heap[W.heap.size]? = some (.cells #[.slice none 0 0, .slice none 0 0] 28 (0, 0)) := by
    rw [← hW1, ((Below.refl (W.alloc (.cells #[.slice none 0 0, .slice none 0 0] 28)).heap.size _).alloc (Nat.le_refl _) _).block _ (by simp)]
    exact heap_alloc_new W _
  have h2 : W1.heap[W.heap.size + 1]? = some (.cells #[.int .i64 0, .int .i64 0] 31 (0, 0)) := by
    rw [← hW1]
    simpa using heap_alloc_new (W.alloc (.cells #[.slice none 0 0, .slice none 0 0] 28)) (.cells #[.int .i64 0, .int .i64 0] 31)
  have hs1 : W1.heap.size = W.heap.size + 2 := by rw [← hW1]; simp
  have HCk := Bx.mk (HC W1 b1)
  have e1 : (c != 0) = true := by rw [bne_iff_ne]; exact hc
  have HB : Bx (∀ W2, Below W1.heap.size W1 W2 → Below W.heap.size W W2) := ⟨fun W2 h => b1.trans (h.mono (by omega))⟩
  clear HC b1
  go_enter Tryd.func9, Tryd.ntmps9
  go_wp2_with (first
    | (go_at_call 17; refine Calls.mono HCk.out ?_; rintro e W2 ⟨rfl, hb2⟩; have g1 := (hb2.block W.heap.size (by omega)).trans h1; have g2 := (hb2.block (W.heap.size + 1) (by omega)).trans h2; have c10 := cell_of_row W2 _ 0 _ _ _ g1; have c11 := cell_of_row W2 _ 1 _ _ _ g1; have c20 := cell_of_row W2 _ 0 _ _ _ g2; have c21 := cell_of_row W2 _ 1 _ _ _ g2; simp at c10 c11 c20 c21; have q1 : ∀ i, W2.frozen? ⟨W.heap.size, i, none⟩ = false := (fun i => by simp [World.frozen?, g1]); have q2 : ∀ i, W2.frozen? ⟨W.heap.size + 1, i, none⟩ = false := (fun i => by simp [World.frozen?, g2]); have hsz2 := hb2.size; replace hb2 := Bx.mk (HB.out W2 hb2); clear g1 g2))
  refine bodyPost_ret (v := .tuple #[nilNames, fltV p c]) (by simp [results, Tryd.results9, go_sem, nilNames, fltV, c10, c11, c20, c21, q1, q2]) rfl ?_
  refine ⟨rfl, ?_⟩
  exact Below.setCell (p := ⟨W.heap.size + 1, 1, none⟩) (Below.setCell (p := ⟨W.heap.size + 1, 0, none⟩) (Below.setCell (p := ⟨W.heap.size, 1, none⟩) (Below.setCell (p := ⟨W.heap.size, 0, none⟩) hb2.out (Nat.le_refl _) _) (Nat.le_refl _) _) (Nat.le_succ _) _) (Nat.le_succ _) _
set_option maxHeartbeats 2000000 in
set_option maxRecDepth 100000 in
theorem Names_fault (W : World) {B nb no nc : Nat} {l : List Nd} (hn : Nodes W B nb no nc l) (hl31 : l.length ≤ 2147483647) (h0 : 0 < l.length) (HC : ∀ W1, Below W.heap.size W W1 → Calls Tryd.prog 17 #[.slice (some ⟨nb, no, none⟩) l.length nc] W1 fun e w' => e = .returned (.tuple #[.int .i64 0, .int .i64 0]) ∧ Below W1.heap.size W1 w')
    (s4 : SSt) (hf : s4.flt.2 ≠ 0)
    (HV : ∀ B' W0 G0 W2 G, ST B' nb no nc l W0 G0 W2 (startS l) G → Calls Tryd.prog 19 #[.pointer (some ⟨G.wb, 0, none⟩), .int .i64 ((l.length - 1 : Nat) : Int)] W2 fun e W' => e = .returned (.tuple #[]) ∧ ∃ G', ST B' nb no nc l W0 G0 W' s4 G') :
    Calls Tryd.prog 9 #[.slice (some ⟨nb, no, none⟩) l.length nc] W fun e W' => e = .returned (.tuple #[nilNames, fltV s4.flt.1 s4.flt.2]) ∧ Below W.heap.size W W' := by
  obtain ⟨W1, hW1⟩ : ∃ W1, (W.alloc (.cells #[.slice none 0 0, .slice none 0 0] 28)).alloc (.cells #[.int .i64 0, .int .i64 0] 31) = W1 := ⟨_, rfl⟩
  have b1 : Below W.heap.size W W1 := by rw [← hW1]; exact ((Below.refl _ _).alloc (Nat.le_refl _) _).alloc (by simp) _
  have h1 : W1.heap[W.heap.size]? = some (.cells #[.slice none 0 0, .slice none 0 0] 28 (0, 0)) := by
    rw [← hW1, ((Below.refl (W.alloc (.cells #[.slice none 0 0, .slice none 0 0] 28)).heap.size _).alloc (Nat.le_refl _) _).block _ (by simp)]
    exact heap_alloc_new W _
  have h2 : W1.heap[W.heap.size + 1]? = some (.cells #[.int .i64 0, .int .i64 0] 31 (0, 0)) := by
    rw [← hW1]
    simpa using heap_alloc_new (W.alloc (.cells #[.slice none 0 0, .slice none 0 0] 28)) (.cells #[.int .i64 0, .int .i64 0] 31)
  have hs1 : W1.heap.size = W.heap.size + 2 := by rw [← hW1]; simp
  have HCk := Bx.mk (HC W1 b1)
  have hmax := hn.max
  unfold maxLen at hmax
  have HNW := Bx.mk fun W2 => newWalker_any (B := W2.heap.size) (l := l) W2 (some ⟨nb, no, none⟩) nc (Nat.le_refl _) hl31
  -- all that is kept until the end
  have HVV : Bx (∀ W2 W3 G, Below W1.heap.size W1 W2 → SRel W2.heap.size (.slice (some ⟨nb, no, none⟩) l.length nc) l.length W3 (startS l) G → Below W2.heap.size W2 W3 →
      Calls Tryd.prog 19 #[.pointer (some ⟨G.wb, 0, none⟩), .int .i64 ((l.length - 1 : Nat) : Int)] W3 fun e W' => e = .returned (.tuple #[]) ∧ ∃ G', SRel W2.heap.size (.slice (some ⟨nb, no, none⟩) l.length nc) l.length W' s4 G' ∧ G'.wb = G.wb ∧ Below W.heap.size W W' ∧ W.heap.size + 2 ≤ W2.heap.size ∧ W'.heap[W.heap.size]? = some (.cells #[.slice none 0 0, .slice none 0 0] 28 (0, 0)) ∧ W'.heap[W.heap.size + 1]? = some (.cells #[.int .i64 0, .int .i64 0] 31 (0, 0))) := ⟨fun W2 W3 G hb2 hr hb3 => by
    have z2 := hb2.size
    have z3 := hb3.size
    have hB : B ≤ W2.heap.size := by have := hn.hi; omega
    have hn3 : Nodes W3 W2.heap.size nb no nc l := ((((hn.below (b1.mono hn.hi)).below (hb2.mono (by have := hn.hi; omega))).up hB (Nat.le_refl _)).below hb3)
    refine (HV W2.heap.size W3 G W3 G (ST.start hr hn3)).mono fun e W' ⟨a, G', h'⟩ => ⟨a, G', h'.rel, h'.fr.wb, ?_, by omega, ?_, ?_⟩
    · exact b1.trans ((hb2.mono (by omega)).trans ((hb3.mono (by omega)).trans (h'.fr.bel.mono (by omega))))
    · rw [h'.fr.bel.block _ (by omega), hb3.block _ (by omega), hb2.block _ (by omega)]; exact h1
    · rw [h'.fr.bel.block _ (by omega), hb3.block _ (by omega), hb2.block _ (by omega)]; exact h2⟩
  have e1 : (s4.flt.2 != 0) = true := by rw [bne_iff_ne]; exact hf
  clear HC b1 HV hn h1 h2
  have hcast : ((l.length - 1 : Nat) : Int) = (l.length : Int) - 1 := by omega
  rw [hcast] at HVV
  go_enter Tryd.func9, Tryd.ntmps9
  go_wp2_with (first
    | (go_at_call 17; refine Calls.mono HCk.out ?_; rintro e W2 ⟨rfl, hb2⟩; replace hb2 := Bx.mk hb2)
    | (go_at_call 18; refine Calls.mono (HNW.out W2) ?_; rintro e W3 ⟨G, rfl, hr3, hb3⟩; have HV3 := Bx.mk (HVV.out W2 W3 G hb2.out hr3 hb3); clear hr3 hb3)
    | (go_at_call 19; refine Calls.mono HV3.out ?_; rintro e W4 ⟨rfl, G4, hr4, hwb, hb4, hsz4, g1, g2⟩; have c10 := cell_of_row W4 _ 0 _ _ _ g1; have c11 := cell_of_row W4 _ 1 _ _ _ g1; have c20 := cell_of_row W4 _ 0 _ _ _ g2; have c21 := cell_of_row W4 _ 1 _ _ _ g2; simp at c10 c11 c20 c21; have q1 : ∀ i, W4.frozen? ⟨W.heap.size, i, none⟩ = false := (fun i => by simp [World.frozen?, g1]); have q2 : ∀ i, W4.frozen? ⟨W.heap.size + 1, i, none⟩ = false := (fun i => by simp [World.frozen?, g2]); have v1 := hr4.cw 1; have v2 := hr4.cw 2; have v3 := hr4.cw 3; have v4 := hr4.cw 4; rw [hwb] at v1 v2 v3 v4; simp only [wlkC] at v1 v2 v3 v4; simp at v1 v2 v3 v4; have lw := hr4.Bw; rw [hwb] at lw; replace hr4 := Bx.mk hr4; replace hb4 := Bx.mk hb4; clear HV3 HVV HNW HCk g1 g2))
  have nw0 : G.wb ≠ W.heap.size := by omega
  have nw1 : G.wb ≠ W.heap.size + 1 := by omega
  have nw2 : W.heap.size ≠ G.wb := by omega
  have nw3 : W.heap.size + 1 ≠ G.wb := by omega
  go_region_held (fun w' => w'.cell? ⟨G.wb, 3, none⟩ = some (.int .i64 s4.flt.1) ∧ w'.cell? ⟨G.wb, 4, none⟩ = some (.int .i64 s4.flt.2)) (first | go_keep | (simp [*])) (fail)
  all_goals
    go_wp2
    refine bodyPost_ret (v := .tuple #[nilNames, fltV s4.flt.1 s4.flt.2]) (by simp [results, Tryd.results9, go_sem, nilNames, fltV, c10, c11, c20, c21, q1, q2]) rfl ?_
    refine ⟨rfl, ?_⟩
    first | exact Below.setCell (p := ⟨W.heap.size + 1, 1, none⟩) (Below.setCell (p := ⟨W.heap.size + 1, 0, none⟩) (Below.setCell (p := ⟨W.heap.size, 1, none⟩) (Below.setCell (p := ⟨W.heap.size, 0, none⟩) hb4.out (Nat.le_refl _) _) (Nat.le_refl _) _) (Nat.le_succ _) _) (Nat.le_succ _) _ | exact (Below.setCell (p := ⟨W.heap.size + 1, 1, none⟩) (Below.setCell (p := ⟨W.heap.size + 1, 0, none⟩) (Below.setCell (p := ⟨W.heap.size, 1, none⟩) (Below.setCell (p := ⟨W.heap.size, 0, none⟩) hb4.out (Nat.le_refl _) _) (Nat.le_refl _) _) (Nat.le_succ _) _) (Nat.le_succ _) _).drew
set_option maxHeartbeats 2000000 in
set_option maxRecDepth 100000 in
theorem Names_ok (W : World) {B nb no nc : Nat} {l : List Nd} (hn : Nodes W B nb no nc l) (hl31 : l.length ≤ 2147483647) (h0 : 0 < l.length) (HC : ∀ W1, Below W.heap.size W W1 → Calls Tryd.prog 17 #[.slice (some ⟨nb, no, none⟩) l.length nc] W1 fun e w' => e = .returned (.tuple #[.int .i64 0, .int .i64 0]) ∧ Below W1.heap.size W1 w')
    (s4 : SSt) (hf : s4.flt.2 = 0)
    (HV : ∀ B' W0 G0 W2 G, ST B' nb no nc l W0 G0 W2 (startS l) G → Calls Tryd.prog 19 #[.pointer (some ⟨G.wb, 0, none⟩), .int .i64 ((l.length - 1 : Nat) : Int)] W2 fun e W' => e = .returned (.tuple #[]) ∧ ∃ G', ST B' nb no nc l W0 G0 W' s4 G') :
    Calls Tryd.prog 9 #[.slice (some ⟨nb, no, none⟩) l.length nc] W fun e W' => (∃ rb fb fv, e = .returned (.tuple #[.agg #[.slice (some ⟨rb, 0, none⟩) l.length l.length, .slice (some ⟨fb, 0, none⟩) l.length l.length], fltV 0 0]) ∧ NmR W.heap.size l.length W' s4 rb fb fv) ∧ Below W.heap.size W W' := by
  obtain ⟨W1, hW1⟩ : ∃ W1, (W.alloc (.cells #[.slice none 0 0, .slice none 0 0] 28)).alloc (.cells #[.int .i64 0, .int .i64 0] 31) = W1 := ⟨_, rfl⟩
  have b1 : Below W.heap.size W W1 := by rw [← hW1]; exact ((Below.refl _ _).alloc (Nat.le_refl _) _).alloc (by simp) _
  have h1 : W1.heap[W.heap.size]? = some (.cells #[.slice none 0 0, .slice none 0 0] 28 (0, 0)) := by
    rw [← hW1, ((Below.refl (W.alloc (.cells #[.slice none 0 0, .slice none 0 0] 28)).heap.size _).alloc (Nat.le_refl _) _).block _ (by simp)]
    exact heap_alloc_new W _
  have h2 : W1.heap[W.heap.size + 1]? = some (.cells #[.int .i64 0, .int .i64 0] 31 (0, 0)) := by
    rw [← hW1]
    simpa using heap_alloc_new (W.alloc (.cells #[.slice none 0 0, .slice none 0 0] 28)) (.cells #[.int .i64 0, .int .i64 0] 31)
  have hs1 : W1.heap.size = W.heap.size + 2 := by rw [← hW1]; simp
  have HCk := Bx.mk (HC W1 b1)
  have hmax := hn.max
  unfold maxLen at hmax
  have HNW := Bx.mk fun W2 => newWalker_any (B := W2.heap.size) (l := l) W2 (some ⟨nb, no, none⟩) nc (Nat.le_refl _) hl31
  -- all that is kept until the end
  have HVV : Bx (∀ W2 W3 G, Below W1.heap.size W1 W2 → SRel W2.heap.size (.slice (some ⟨nb, no, none⟩) l.length nc) l.length W3 (startS l) G → Below W2.heap.size W2 W3 →
      Calls Tryd.prog 19 #[.pointer (some ⟨G.wb, 0, none⟩), .int .i64 ((l.length - 1 : Nat) : Int)] W3 fun e W' => e = .returned (.tuple #[]) ∧ ∃ G', SRel W2.heap.size (.slice (some ⟨nb, no, none⟩) l.length nc) l.length W' s4 G' ∧ G'.wb = G.wb ∧ Below W.heap.size W W' ∧ W.heap.size + 2 ≤ W2.heap.size ∧ W'.heap[W.heap.size]? = some (.cells #[.slice none 0 0, .slice none 0 0] 28 (0, 0)) ∧ W'.heap[W.heap.size + 1]? = some (.cells #[.int .i64 0, .int .i64 0] 31 (0, 0))) := ⟨fun W2 W3 G hb2 hr hb3 => by
    have z2 := hb2.size
    have z3 := hb3.size
    have hB : B ≤ W2.heap.size := by have := hn.hi; omega
    have hn3 : Nodes W3 W2.heap.size nb no nc l := ((((hn.below (b1.mono hn.hi)).below (hb2.mono (by have := hn.hi; omega))).up hB (Nat.le_refl _)).below hb3)
    refine (HV W2.heap.size W3 G W3 G (ST.start hr hn3)).mono fun e W' ⟨a, G', h'⟩ => ⟨a, G', h'.rel, h'.fr.wb, ?_, by omega, ?_, ?_⟩
    · exact b1.trans ((hb2.mono (by omega)).trans ((hb3.mono (by omega)).trans (h'.fr.bel.mono (by omega))))
    · rw [h'.fr.bel.block _ (by omega), hb3.block _ (by omega), hb2.block _ (by omega)]; exact h1
    · rw [h'.fr.bel.block _ (by omega), hb3.block _ (by omega), hb2.block _ (by omega)]; exact h2⟩
  clear HC b1 HV hn h1 h2
  have hcast : ((l.length - 1 : Nat) : Int) = (l.length : Int) - 1 := by omega
  rw [hcast] at HVV
  go_enter Tryd.func9, Tryd.ntmps9
  go_wp2_with (first
    | (go_at_call 17; refine Calls.mono HCk.out ?_; rintro e W2 ⟨rfl, hb2⟩; replace hb2 := Bx.mk hb2)
    | (go_at_call 18; refine Calls.mono (HNW.out W2) ?_; rintro e W3 ⟨G, rfl, hr3, hb3⟩; have HV3 := Bx.mk (HVV.out W2 W3 G hb2.out hr3 hb3); clear hr3 hb3)
    | (go_at_call 19; refine Calls.mono HV3.out ?_; rintro e W4 ⟨rfl, G4, hr4, hwb, hb4, hsz4, g1, g2⟩; have c10 := cell_of_row W4 _ 0 _ _ _ g1; have c11 := cell_of_row W4 _ 1 _ _ _ g1; have c20 := cell_of_row W4 _ 0 _ _ _ g2; have c21 := cell_of_row W4 _ 1 _ _ _ g2; simp at c10 c11 c20 c21; have q1 : ∀ i, W4.frozen? ⟨W.heap.size, i, none⟩ = false := (fun i => by simp [World.frozen?, g1]); have q2 : ∀ i, W4.frozen? ⟨W.heap.size + 1, i, none⟩ = false := (fun i => by simp [World.frozen?, g2]); have v1 := hr4.cw 1; have v2 := hr4.cw 2; have v3 := hr4.cw 3; have v4 := hr4.cw 4; rw [hwb] at v1 v2 v3 v4; simp only [wlkC] at v1 v2 v3 v4; simp at v1 v2 v3 v4; have lw := hr4.Bw; rw [hwb] at lw; replace hr4 := Bx.mk hr4; replace hb4 := Bx.mk hb4; rw [hf] at v4; clear HV3 HVV HNW HCk g1 g2))
  have nw0 : G.wb ≠ W.heap.size := by omega
  have nw1 : G.wb ≠ W.heap.size + 1 := by omega
  go_wp2
  refine bodyPost_ret (v := .tuple #[.agg #[.slice (some ⟨G4.rb, 0, none⟩) l.length l.length, .slice (some ⟨G4.fb, 0, none⟩) l.length l.length], fltV 0 0]) (by simp [results, Tryd.results9, go_sem, fltV, c10, c11, c20, c21, q1, q2]) rfl ?_
  have hr := hr4.out
  have hS : ∀ b, W2.heap.size ≤ b → ((((W4.setCell ⟨W.heap.size, 0, none⟩ (.slice (some ⟨G4.rb, 0, none⟩) l.length l.length)).setCell ⟨W.heap.size, 1, none⟩ (.slice (some ⟨G4.fb, 0, none⟩) l.length l.length)).setCell ⟨W.heap.size + 1, 0, none⟩ (.int .i64 0)).setCell ⟨W.heap.size + 1, 1, none⟩ (.int .i64 0)).heap[b]? = W4.heap[b]? := fun b hb => by
    rw [heap_setCell_other _ _ _ _ (show b ≠ W.heap.size + 1 by omega), heap_setCell_other _ _ _ _ (show b ≠ W.heap.size + 1 by omega), heap_setCell_other _ _ _ _ (show b ≠ W.heap.size by omega), heap_setCell_other _ _ _ _ (show b ≠ W.heap.size by omega)]
  have lrb := hr.lb (b := G4.rb) (by rw [hr.lrb]; simp)
  have lfb := hr.lb (b := G4.fb) (by rw [hr.lfb]; simp)
  refine ⟨⟨G4.rb, G4.fb, G4.fv, rfl, ⟨by omega, by omega⟩, (hS _ lrb).trans hr.href, (hS _ lfb).trans hr.hfree, fun i hi => ?_⟩, ?_⟩
  · have := row_same (hr.hrow i hi) (w' := _) fun b hb => hS b (hr.lb (by rw [hr.lrow i b hi hb]; simp))
    rcases this with ⟨t1, t2⟩
    refine ⟨t1, ?_⟩
    rcases t2 with t2 | ⟨g, cap, cur, e1, e2, e3⟩
    · exact .inl t2
    · exact .inr ⟨g, cap, cur, e1, by omega, e3⟩
  · exact Below.setCell (p := ⟨W.heap.size + 1, 1, none⟩) (Below.setCell (p := ⟨W.heap.size + 1, 0, none⟩) (Below.setCell (p := ⟨W.heap.size, 1, none⟩) (Below.setCell (p := ⟨W.heap.size, 0, none⟩) hb4.out (Nat.le_refl _) _) (Nat.le_refl _) _) (Nat.le_succ _) _) (Nat.le_succ _) _
end Go.Proofs.YtjjbgbadkbomlaaDoor
