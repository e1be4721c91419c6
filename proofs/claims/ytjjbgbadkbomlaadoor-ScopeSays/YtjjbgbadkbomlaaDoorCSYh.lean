import Derived.Test.YtjjbgbadkbomlaaDoorCSY3
import Derived.Test.YtjjbgbadkbomlaaDoorCSRt
namespace Go.Proofs.YtjjbgbadkbomlaaDoor
open Go.RowKit
set_option linter.unusedVariables false
set_option linter.unusedSimpArgs false

set_option maxRecDepth 100000 in
set_option maxHeartbeats 2000000 in
/-- **has** -/
theorem has_any (w : World) (B : Nat) (a : Option Addr) (c : Nat) (xs : List Int) (n : Int) (h : IntsV w B (.slice a xs.length c) xs) :
    Calls Tryd.prog 12 #[.slice a xs.length c, .int .i64 n] w fun e w' => e = .returned (.bool (decide (n ∈ xs))) ∧ w = w' := by
  have hl := ints_lenS h
  unfold maxLen at hl
  have HX := Bx.mk h
  generalize hF : decide (n ∈ xs) = F
  have HF := Bx.mk hF
  clear h hF
  go_enter Tryd.func12, Tryd.ntmps12
  go_wp2
  go_loop [5] (fun x => ∃ p : Nat, p ≤ xs.length ∧ x = .int .i64 p ∧ Bx (n ∉ xs.take p)) (fun x => xs.length - (intOf x).toNat)
  case atStart => exact ⟨0, Nat.zero_le _, rfl, ⟨by simp⟩⟩
  case round =>
    obtain ⟨p, hp, rfl, HR⟩ := hrel
    by_cases hlt : p < xs.length
    · obtain ⟨b1, o1, rfl, hb1, hc1, hcell1⟩ := ints_cellsS HX.out (by omega)
      have k1 := hcell1 p hlt
      by_cases he : xs[p] = n
      · have hf : Bx (F = true) := ⟨by rw [← HF.out]; exact decide_eq_true (by rw [← he]; exact List.getElem_mem hlt)⟩
        have d1 : (xs[p] == n) = true := by simpa using he
        generalize xs[p] = z at *
        clear hcell1 HR HX HF
        go_wp2
        go_ret
        exact ⟨ret_bool hf.out.symm, rfl⟩
      · have HT : Bx (n ∉ xs.take (p + 1)) := ⟨by
          rw [List.take_succ_eq_append_getElem hlt]
          intro q
          rcases List.mem_append.1 q with q | q
          · exact HR.out q
          · have q : n = xs[p] := by simpa using q
            exact he q.symm⟩
        have d1 : (xs[p] == n) = false := by simpa using he
        generalize xs[p] = z at *
        clear hcell1 HR HX HF
        go_wp2
        go_round
        case rel => exact ⟨p + 1, by omega, by go_num, HT⟩
        case measure => simp [intOf]; omega
    · have hf : Bx (F = false) := ⟨by
        rw [← HF.out]
        refine decide_eq_false fun q => ?_
        have := HR.out
        rw [List.take_of_length_le (by omega)] at this
        exact this q⟩
      clear HR HX HF
      go_wp2
      go_ret
      exact ⟨ret_bool hf.out.symm, rfl⟩
/-- whose kid each node is -/
structure UpR (l : List Nd) (u : Nat → Int) : Prop where
  at_ : ∀ j, j < l.length → (u j = -1 ∧ j + 1 = l.length) ∨ ∃ i : Nat, u j = i ∧ (j : Int) ∈ (ndN l i).kids
theorem UpR.lt {l : List Nd} {u : Nat → Int} (h : UpR l u) (T : KT l) {j : Nat} (hj : j < l.length) : u j = -1 ∨ ∃ i : Nat, u j = i ∧ j < i ∧ i < l.length ∧ (j : Int) ∈ (ndN l i).kids := by
  rcases h.at_ j hj with ⟨a, _⟩ | ⟨i, a, b⟩
  · exact .inl a
  · exact .inr ⟨i, a, (T.kid b).1, T.far i _ b, b⟩
def upM (N : Nat) (v : Value) : Nat := if intOf v < 0 then 0 else N + 1 - (intOf v).toNat
theorem upM_neg (N : Nat) : upM N (.int .i64 (-1)) = 0 := rfl
theorem upM_nat (N j : Nat) : upM N (.int .i64 (j : Int)) = N + 1 - j := by
  unfold upM
  have e : intOf (.int .i64 (j : Int)) = (j : Int) := rfl
  rw [e, if_neg (by omega)]
  rfl
theorem in_next {l : List Nd} (T : KT l) {u : Nat → Int} (hu : UpR l u) {p j : Nat} (hj : j < l.length) (hne : j ≠ p) : (u j = -1 ∧ ¬ In l p j) ∨ ∃ i : Nat, u j = i ∧ j < i ∧ i < l.length ∧ (In l p j ↔ In l p i) := by
  rcases hu.at_ j hj with ⟨a, b⟩ | ⟨i, a, b⟩
  · refine .inl ⟨a, fun h => ?_⟩
    have gen : ∀ x, In l p x → x ≠ p → x + 1 < l.length := fun x h hx => by
      cases h with
      | self => exact absurd rfl hx
      | kid hy hk =>
        have := T.far _ _ hk
        have := (T.kid hk).1
        omega
    have := gen j h hne
    omega
  · refine .inr ⟨i, a, (T.kid b).1, T.far i _ b, fun h => In.up T h hne b rfl, fun h => In.kid h b⟩
set_option maxRecDepth 100000 in
set_option maxHeartbeats 2000000 in
/-- **within** -/
theorem within_any {l : List Nd} (T : KT l) {u : Nat → Int} (hu : UpR l u) (w : World) (ub : Nat) (hl : l.length ≤ 2147483647) (hc : ∀ j, j < l.length → w.cell? ⟨ub, j, none⟩ = some (.int .i64 (u j))) (x p : Nat) (hx : x < l.length) (F : Bool) (hF : F = true ↔ In l p x) :
    Calls Tryd.prog 11 #[.slice (some ⟨ub, 0, none⟩) l.length l.length, .int .i64 x, .int .i64 p] w fun e w' => e = .returned (.bool F) ∧ w = w' := by
  have HC := Bx.mk hc
  have HT := Bx.mk T
  have HU := Bx.mk hu
  have HS := Bx.mk hF
  clear hF hc T hu
  go_enter Tryd.func11, Tryd.ntmps11
  go_wp2
  go_loop [1] (fun v => (v = .int .i64 (-1) ∧ Bx (F = false)) ∨ ∃ j : Nat, j < l.length ∧ v = .int .i64 j ∧ Bx ((F = true) ↔ In l p j)) (fun v => upM l.length v)
  case atStart => exact .inr ⟨x, hx, rfl, HS⟩
  case round =>
    rcases hrel with ⟨rfl, HF⟩ | ⟨j, hj, rfl, HF⟩
    · clear HS HC HT HU
      go_wp2
      go_ret
      exact ⟨ret_bool HF.out.symm, rfl⟩
    · have c := HC.out j hj
      by_cases e : j = p
      · have HE : Bx (F = true) := ⟨HF.out.2 (by rw [e]; exact .self)⟩
        have d : ((j : Int) == (p : Int)) = true := by rw [e]; simp
        clear HS HC HT HU HF e
        go_wp2
        go_ret
        exact ⟨ret_bool HE.out.symm, rfl⟩
      · have d : ((j : Int) == (p : Int)) = false := by rw [beq_eq_false_iff_ne]; omega
        rcases in_next HT.out HU.out (p := p) hj e with ⟨q1, q2⟩ | ⟨i, q1, q2, q3, q4⟩
        · have HE : Bx (F = false) := ⟨by
            cases hh : F with
            | false => rfl
            | true => exact absurd (HF.out.1 hh) q2⟩
          rw [q1] at c
          clear HS HC HT HU HF e q1 q2
          go_wp2
          go_round
          case rel => exact .inl ⟨rfl, HE⟩
          case measure => rw [upM_neg, upM_nat]; omega
        · have HE : Bx ((F = true) ↔ In l p i) := ⟨HF.out.trans q4⟩
          rw [q1] at c
          clear HS HC HT HU HF e q1 q4
          go_wp2
          go_round
          case rel => exact .inr ⟨i, q3, rfl, HE⟩
          case measure => rw [upM_nat, upM_nat]; omega
end Go.Proofs.YtjjbgbadkbomlaaDoor
namespace Go.Proofs.YtjjbgbadkbomlaaDoor
open Go.RowKit
set_option linter.unusedVariables false
set_option linter.unusedSimpArgs false

/-- a row of numbers that is written in place -/
structure IRw (W : World) (fb N : Nat) (f : Nat → Int) : Prop where
  ex : ∃ C : Array Value, W.heap[fb]? = some (.cells C 3 (0, 0)) ∧ C.size = N ∧ ∀ j, j < N → C[j]? = some (.int .i64 (f j))
theorem IRw.cell {W : World} {fb N : Nat} {f : Nat → Int} (h : IRw W fb N f) {j : Nat} (hj : j < N) : W.cell? ⟨fb, j, none⟩ = some (.int .i64 (f j)) := by
  obtain ⟨C, h1, h2, h3⟩ := h.ex
  rw [cell_of_row W fb j C 3 (0, 0) h1]
  exact h3 j hj
theorem IRw.frozen {W : World} {fb N : Nat} {f : Nat → Int} (h : IRw W fb N f) (j : Nat) : W.frozen? ⟨fb, j, none⟩ = false := by
  obtain ⟨C, h1, _⟩ := h.ex
  simp [World.frozen?, h1]
theorem IRw.set {W : World} {fb N : Nat} {f : Nat → Int} (h : IRw W fb N f) {i : Nat} (hi : i < N) (x : Int) : IRw (W.setCell ⟨fb, i, none⟩ (.int .i64 x)) fb N (upd f i x) := by
  obtain ⟨C, h1, h2, h3⟩ := h.ex
  refine ⟨C.setIfInBounds i (.int .i64 x), heap_setCell_same W fb i C 3 _ h1, by simp [h2], fun j hj => ?_⟩
  rw [Array.getElem?_setIfInBounds]
  by_cases e : i = j
  · subst e
    rw [if_pos rfl, if_pos (by omega), upd_same]
  · rw [if_neg e, upd_other (Ne.symm e)]
    exact h3 j hj
theorem IRw.lt {W : World} {fb N : Nat} {f : Nat → Int} (h : IRw W fb N f) : fb < W.heap.size := by
  obtain ⟨C, h1, _⟩ := h.ex
  exact (Array.getElem?_eq_some_iff.1 h1).1
/-- in the midst of kidOf -/
structure KM (w wr : World) (l : List Nd) (f : Nat → Int) (i q : Nat) : Prop where
  row : IRw wr w.heap.size l.length f
  bel : Below w.heap.size w wr
  par : ∀ j, j < l.length → f j = -1 ∨ ∃ y : Nat, f j = y ∧ (j : Int) ∈ (ndN l y).kids
  all : ∀ y k, k ∈ (ndN l y).kids → (y < i ∨ (y = i ∧ k ∈ (ndN l i).kids.take q)) → f k.toNat ≠ -1
theorem KM.put {w wr : World} {l : List Nd} {f : Nat → Int} {i q : Nat} (h : KM w wr l f i q) (T : KT l) (hq : q < (ndN l i).kids.length) (m : Nat) (hm : (ndN l i).kids[q] = (m : Int)) : KM w (wr.setCell ⟨w.heap.size, m, none⟩ (.int .i64 (i : Int))) l (upd f m i) i (q + 1) := by
  have hmem : (m : Int) ∈ (ndN l i).kids := by rw [← hm]; exact List.getElem_mem hq
  have hlt := T.far i _ hmem
  have hmi : m < i := (T.kid hmem).1
  refine ⟨h.row.set (by omega) _, Below.setCell (p := ⟨w.heap.size, m, none⟩) h.bel (Nat.le_refl _) _, fun j hj => ?_, fun y k hk hy => ?_⟩
  · by_cases e : j = m
    · subst e
      rw [upd_same]
      exact .inr ⟨i, rfl, hmem⟩
    · rw [upd_other e]
      exact h.par j hj
  · by_cases e : k.toNat = m
    · rw [e, upd_same]
      omega
    · rw [upd_other e]
      refine h.all y k hk ?_
      rcases hy with hy | ⟨hy, hk2⟩
      · exact .inl hy
      · right
        refine ⟨hy, ?_⟩
        rw [List.take_succ_eq_append_getElem hq] at hk2
        rcases List.mem_append.1 hk2 with hk2 | hk2
        · exact hk2
        · have hk2 : k = (ndN l i).kids[q] := by simpa using hk2
          rw [hk2, hm] at e
          exact absurd rfl e
theorem KM.next {w wr : World} {l : List Nd} {f : Nat → Int} {i q : Nat} (h : KM w wr l f i q) (hq : (ndN l i).kids.length ≤ q) : KM w wr l f (i + 1) 0 := by
  refine ⟨h.row, h.bel, h.par, fun y k hk hy => h.all y k hk ?_⟩
  rcases hy with hy | ⟨_, hk2⟩
  · by_cases e : y = i
    · right
      subst e
      exact ⟨rfl, by rw [List.take_of_length_le hq]; exact hk⟩
    · exact .inl (by omega)
  · simp at hk2
theorem KM.up {w wr : World} {l : List Nd} {f : Nat → Int} (h : KM w wr l f l.length 0) (T : KT l) : UpR l f := ⟨fun j hj => by
  rcases h.par j hj with e | ⟨y, e, hk⟩
  · left
    refine ⟨e, ?_⟩
    apply Classical.byContradiction
    intro hc
    obtain ⟨i, hi⟩ := T.all j (by omega)
    exact h.all i j hi (.inl (T.far i _ hi)) e
  · exact .inr ⟨y, e, hk⟩⟩
set_option maxRecDepth 100000 in
set_option maxHeartbeats 4000000 in
/-- **kidOf** -/
theorem kidOf_any (w : World) (B nb no nc : Nat) (l : List Nd) (hn : Nodes w B nb no nc l) (T : KT l) (hl : l.length ≤ 2147483647) :
    Calls Tryd.prog 10 #[.slice (some ⟨nb, no, none⟩) l.length nc] w fun e w' => e = .returned (.slice (some ⟨w.heap.size, 0, none⟩) l.length l.length) ∧ Below w.heap.size w w' ∧ ∃ u, UpR l u ∧ IRw w' w.heap.size l.length u := by
  have hmk := make_ints w l.length hl
  have hB := hn.hi
  have hnb := hn.lo
  have HN := Bx.mk hn
  have HT := Bx.mk T
  have H0 : Bx (IRw (w.alloc (.cells (zeros l.length) 3)) w.heap.size l.length (fun _ => 0) ∧ Below w.heap.size w (w.alloc (.cells (zeros l.length) 3))) := ⟨⟨⟨_, heap_alloc_new w _, by simp [zeros, madeCells], fun j hj => by simp [zeros, madeCells, Nat.mod_one, hj]⟩⟩, below1 w _⟩
  clear hn T
  go_enter Tryd.func10, Tryd.ntmps10
  go_wp2
  go_loopw [4] (fun x wr => ∃ k : Nat, ∃ f, k ≤ l.length ∧ x = .int .i64 k ∧ Bx (IRw wr w.heap.size l.length f ∧ Below w.heap.size w wr ∧ ∀ j, j < k → f j = -1)) (fun x _ => l.length - (intOf x).toNat)
  case atStart => exact ⟨0, _, Nat.zero_le _, rfl, ⟨H0.out.1, H0.out.2, fun j hj => absurd hj (by omega)⟩⟩
  case round =>
    obtain ⟨k, f, hk, rfl, HS⟩ := hrel
    clear H0 hmk
    by_cases hlt : k < l.length
    · have c := HS.out.1.cell hlt
      have fz := HS.out.1.frozen
      have hwl := HS.out.1.lt
      have HS2 : Bx (IRw (wr.setCell ⟨w.heap.size, k, none⟩ (.int .i64 (-1))) w.heap.size l.length (upd f k (-1)) ∧ Below w.heap.size w (wr.setCell ⟨w.heap.size, k, none⟩ (.int .i64 (-1))) ∧ ∀ j, j < k + 1 → upd f k (-1) j = -1) := ⟨HS.out.1.set hlt _, Below.setCell (p := ⟨w.heap.size, k, none⟩) HS.out.2.1 (Nat.le_refl _) _, fun j hj => by
        by_cases e : j = k
        · rw [e, upd_same]
        · rw [upd_other e]; exact HS.out.2.2 j (by omega)⟩
      clear HS
      go_wp2
      refine ⟨⟨k + 1, _, by omega, by go_num, HS2⟩, ?_⟩
      simp [intOf]; omega
    · have hke : k = l.length := by omega
      subst hke
      have HK : Bx (KM w wr l f 0 0) := ⟨⟨HS.out.1, HS.out.2.1, fun j hj => .inl (HS.out.2.2 j hj), fun y k hk hy => by
        rcases hy with hy | ⟨_, hy⟩
        · omega
        · simp at hy⟩⟩
      clear HS
      go_wp2
      go_loopw [5] (fun x wr => ∃ i : Nat, ∃ f, i ≤ l.length ∧ x = .int .i64 i ∧ Bx (KM w wr l f i 0)) (fun x _ => l.length - (intOf x).toNat)
      case atStart => exact ⟨0, _, Nat.zero_le _, rfl, HK⟩
      case round =>
        obtain ⟨i, f, hi, rfl, HK⟩ := hrel
        by_cases hlt2 : i < l.length
        · go_wp2
          go_loopw [6] (fun x wr => ∃ q : Nat, ∃ f, q ≤ (ndN l i).kids.length ∧ x = .int .i64 q ∧ Bx (KM w wr l f i q)) (fun x _ => (ndN l i).kids.length - (intOf x).toNat)
          case atStart => exact ⟨0, _, Nat.zero_le _, rfl, HK⟩
          case round =>
            obtain ⟨q, f, hq, rfl, HK⟩ := hrel
            obtain ⟨ka, kc, hX⟩ := (HN.out.below (HK.out.bel.mono hB)).at_ i hlt2
            have c2 := hX.c2
            have hkl := ints_lenS hX.kids
            unfold maxLen at hkl
            by_cases hlt3 : q < (ndN l i).kids.length
            · obtain ⟨b, o, rfl, hbB, hkc, hcell⟩ := ints_cellsS hX.kids (by omega)
              obtain ⟨m, hm, hmi⟩ := HT.out.low i _ (List.getElem_mem hlt3)
              have c3 := hcell q hlt3
              rw [hm] at c3
              have c4 := HK.out.row.cell (show m < l.length by omega)
              have fz := HK.out.row.frozen
              have hwl := HK.out.row.lt
              have HK2 : Bx _ := ⟨HK.out.put HT.out hlt3 m hm⟩
              clear HK hcell hX hm
              generalize (ndN l i).kids.length = lk at *
              go_wp2
              refine ⟨⟨q + 1, _, by omega, by go_num, HK2⟩, ?_⟩
              simp [intOf]; omega
            · have HK2 : Bx _ := ⟨HK.out.next (by omega)⟩
              clear HK hX
              generalize (ndN l i).kids.length = lk at *
              go_wp2
              refine ⟨⟨i + 1, _, by omega, by go_num, HK2⟩, ?_⟩
              simp [intOf]; omega
        · have hie : i = l.length := by omega
          subst hie
          go_wp2
          go_ret
          exact ⟨rfl, HK.out.bel, f, HK.out.up HT.out, HK.out.row⟩
end Go.Proofs.YtjjbgbadkbomlaaDoor
namespace Go.Proofs.YtjjbgbadkbomlaaDoor
open Go.RowKit
set_option linter.unusedVariables false
set_option linter.unusedSimpArgs false

theorem rep_getD {α : Type} (n j : Nat) (x : α) : (List.replicate n x).getD j x = x := by
  rw [List.getD_eq_getElem?_getD, List.getElem?_replicate]
  split <;> rfl
theorem start_live {l : List Nd} {m : Nat} (h : Live (startS l) m) : m < 2 := by
  have := h.lt (start_wf l)
  simpa [startS] using this
theorem start_sy (l : List Nd) : Sy l (startS l) := by
  have rf0 : ∀ j, rf (startS l) j = -1 := fun j => rep_getD _ _ _
  have fr0 : ∀ p, frS (startS l) p = [] := fun p => rep_getD _ _ _
  have d0 : dcM (startS l) 0 = -2 := rfl
  have d1 : dcM (startS l) 1 = -3 := rfl
  refine ⟨start_wf l, fun j j' _ h => by simp [startS] at h, fun k hk => by simp [startS] at hk, fun k hk => by simp [startS] at hk, fun m m' h1 h2 e => ?_, fun m hm k hk => ?_, fun m hm k _ h2 => by simp [startS] at h2, fun x m e => ?_, fun m m' e => ?_, fun p d hd => ?_, fun p => ?_, fun j hj => absurd (rf0 j) hj⟩
  · have h1 : m < 2 := h1
    have h2 : m' < 2 := h2
    have a : m = 0 ∨ m = 1 := by omega
    have b : m' = 0 ∨ m' = 1 := by omega
    rcases a with rfl | rfl <;> rcases b with rfl | rfl
    · rfl
    · rw [d0, d1] at e; omega
    · rw [d0, d1] at e; omega
    · rfl
  · rw [(start_out l m).2.2.2] at hk
    omega
  · have e : nwSc true true x = some m := e
    unfold nwSc at e
    split at e
    · rename_i q
      cases e
      rw [d1, q.2]
      rfl
    · split at e
      · rename_i q
        cases e
        rw [d0, q.2]
        rfl
      · cases e
  · rw [(start_out l m).1] at e; cases e
  · rw [fr0] at hd; cases hd
  · rw [fr0]; exact List.nodup_nil
/-- **WHAT IS TOLD IS RIGHT** -/
theorem names_say {l : List Nd} (hc : (checkAll l).2 = 0) (hf : (namesS l).flt.2 = 0) : Sy l (namesS l) ∧ ∀ j, j < l.length → kdN l j = 13 → rf (namesS l) j ≠ -1 := by
  have T := kt_of hc
  obtain ⟨hl, h0, _, _⟩ := lok_of hc
  have fs : Fsh (startS l) (In l (l.length - 1)) := by
    refine ⟨fun j _ => rep_getD _ _ _, fun j _ => rep_getD _ _ _, fun m hm d e => ?_, fun k hk => by simp [startS] at hk⟩
    have hm : m < 2 := hm
    have a : m = 0 ∨ m = 1 := by omega
    rcases a with rfl | rfl
    · have e : (-2 : Int) = d := e
      omega
    · have e : (-3 : Int) = d := e
      omega
  have cx : Ctx l (startS l) (l.length - 1) := by
    refine ⟨fun k hk => by simp [startS] at hk, fun p _ h2 h3 => ?_⟩
    have gen : ∀ x, In l p x → x ≠ p → x + 1 < l.length := fun x h hx => by
      cases h with
      | self => exact absurd rfl hx
      | kid hy hk =>
        have := T.far _ _ hk
        have := (T.kid hk).1
        omega
    have := gen _ h2 (Ne.symm h3)
    omega
  have p := vis_sy T (shp_of hc) hl.lt l.length (l.length - 1) (startS l) (by omega) (by omega) (start_sy l) fs cx hf
  exact ⟨p.sy, fun j hj hk => p.all j (In.root T hj) hk⟩
end Go.Proofs.YtjjbgbadkbomlaaDoor
namespace Go.Proofs.YtjjbgbadkbomlaaDoor
open Go.RowKit
set_option linter.unusedVariables false
set_option linter.unusedSimpArgs false

/-- all that is read -/
structure SV (l : List Nd) (W : World) (B nb no nc tb rb fb ub : Nat) (s : SSt) (u : Nat → Int) : Prop where
  nds : Nodes W B nb no nc l
  t0 : W.cell? ⟨tb, 0, none⟩ = some (.slice (some ⟨rb, 0, none⟩) l.length l.length)
  t1 : W.cell? ⟨tb, 1, none⟩ = some (.slice (some ⟨fb, 0, none⟩) l.length l.length)
  ref : ∀ j, j < l.length → W.cell? ⟨rb, j, none⟩ = some (.int .i64 (rf s j))
  free : Rws W W.heap.size fb l.length (frS s)
  up : ∀ j, j < l.length → W.cell? ⟨ub, j, none⟩ = some (.int .i64 (u j))
theorem SV.drewN {l : List Nd} {W : World} {B nb no nc tb rb fb ub : Nat} {s : SSt} {u : Nat → Int} (h : SV l W B nb no nc tb rb fb ub s u) (k : Nat) : SV l (W.drewN k) B nb no nc tb rb fb ub s u :=
  ⟨h.nds.below (below_drewN (Below.refl _ _) k), h.t0, h.t1, h.ref, h.free.drewN k, h.up⟩
theorem bool_of (P : Prop) : ∃ F : Bool, F = true ↔ P := ⟨@decide P (Classical.propDecidable P), by simp⟩
/-- what is known of a name's meaning -/
structure NmF (l : List Nd) (s : SSt) (i : Nat) (d : Int) : Prop where
  here : rf s i = d
  anc : ∀ p, kdN l p = 20 → In l p i → (∀ e : Nat, d = e → ¬ In l p e) → d ∈ frS s p ∧ isVarP l d = false
theorem nm_cases {l : List Nd} {s : SSt} (h : Sy l s) {i : Nat} (hr : rf s i ≠ -1) : (NmF l s i (-2) ∧ (ndN l i).name = inN) ∨ (NmF l s i (-3) ∧ (ndN l i).name = outN) ∨ ∃ d : Nat, d < l.length ∧ NmF l s i d ∧ (ndN l i).name = (ndN l d).name := by
  obtain ⟨_, hn, hd, ha⟩ := h.rr i hr
  have mk : ∀ d, rf s i = d → NmF l s i d := fun d e => ⟨e, fun p h1 h2 h3 => by
    rcases ha p h1 h2 with ⟨x, q1, q2⟩ | q
    · exact absurd q2 (h3 x (by rw [← e]; exact q1))
    · rw [e] at q
      exact ⟨q, (h.fr p d q).2.2.2.1⟩⟩
  rcases hd with e | e | ⟨d, e, hlt⟩
  · refine .inl ⟨mk _ e, ?_⟩
    rw [← hn, e]; rfl
  · refine .inr (.inl ⟨mk _ e, ?_⟩)
    rw [← hn, e]; rfl
  · refine .inr (.inr ⟨d, hlt, mk _ e, ?_⟩)
    rw [← hn, e, mname_nat]
theorem up_next {l : List Nd} (T : KT l) {u : Nat → Int} (hu : UpR l u) {p i : Nat} (hp : p < l.length) (hin : In l p i) : u p = -1 ∨ ∃ q : Nat, u p = q ∧ p < q ∧ q < l.length ∧ In l q i := by
  rcases hu.lt T hp with e | ⟨q, e, h1, h2, h3⟩
  · exact .inl e
  · exact .inr ⟨q, e, h1, h2, In.trans (.kid .self h3) hin⟩
theorem up_step {l : List Nd} (T : KT l) {u : Nat → Int} (hu : UpR l u) {p i : Nat} (hp : p < l.length) (hin : In l p i) : (Value.int .i64 (u p) = .int .i64 (-1) ∨ ∃ q : Nat, q < l.length ∧ Value.int .i64 (u p) = .int .i64 q ∧ Bx (In l q i)) ∧ upM l.length (.int .i64 (u p)) < upM l.length (.int .i64 (p : Int)) := by
  rcases up_next T hu hp hin with e | ⟨q, e, h1, h2, h3⟩
  · rw [e]
    exact ⟨.inl rfl, by rw [upM_neg, upM_nat]; omega⟩
  · rw [e]
    exact ⟨.inr ⟨q, h2, rfl, ⟨h3⟩⟩, by rw [upM_nat, upM_nat]; omega⟩
theorem ints_take {w : World} {B : Nat} {a : Option Addr} {c : Nat} {xs : List Int} (h : IntsV w B (.slice a xs.length c) xs) {k : Nat} (hk : k ≤ xs.length) : IntsV w B (.slice a (xs.take k).length c) (xs.take k) := by
  obtain ⟨a', c', e, h1, h2, h3⟩ := h.ex
  simp only [Value.slice.injEq, true_and] at e
  obtain ⟨rfl, rfl⟩ := e
  have hl : (xs.take k).length = k := by simp; omega
  refine ⟨a, c, rfl, by omega, by omega, fun h0 => ?_⟩
  obtain ⟨b, o, e, hb, hc⟩ := h3 (by omega)
  refine ⟨b, o, e, hb, fun i hi => ?_⟩
  rw [hc i (by omega)]
  simp
/-- what is known of what is captured -/
theorem fr_facts {l : List Nd} {s : SSt} (h : Sy l s) (T : KT l) {p k : Nat} (hk : k < (frS s p).length) : (frS s p)[k] ∉ (frS s p).take k ∧ ((frS s p)[k] = -2 ∨ (frS s p)[k] = -3 ∨ ∃ d : Nat, (frS s p)[k] = d ∧ d < l.length ∧ ¬ In l p d ∧ ((ndN l d).kind == 32) = false) ∧ ∃ i, i < l.length ∧ rf s i = (frS s p)[k] ∧ In l p i := by
  obtain ⟨_, h1, h2, h3, i, h4, h5⟩ := h.fr p _ (List.getElem_mem hk)
  have hr : rf s i ≠ -1 := by rw [h4]; exact h1
  obtain ⟨k13, _, hd, _⟩ := h.rr i hr
  refine ⟨fun hm => ?_, ?_, i, ?_, h4, h5⟩
  · obtain ⟨q, hq, e⟩ := List.getElem_of_mem hm
    have hq2 : q < k := by simp at hq; omega
    have e : (frS s p)[q]'(by omega) = (frS s p)[k] := by rw [← e]; simp
    exact List.pairwise_iff_getElem.1 (h.nd p) q k (by omega) hk hq2 e
  · rw [h4] at hd
    rcases hd with e | e | ⟨d, e, hlt⟩
    · exact .inl e
    · exact .inr (.inl e)
    · refine .inr (.inr ⟨d, e, hlt, h2 d e, ?_⟩)
      rw [e] at h3
      unfold isVarP at h3
      have : decide ((0 : Int) ≤ (d : Int)) = true := by simp
      rw [this, Bool.true_and] at h3
      exact h3
  · apply Classical.byContradiction
    intro hc
    unfold kdN at k13
    rw [ndN_far (by omega)] at k13
    cases k13
end Go.Proofs.YtjjbgbadkbomlaaDoor
