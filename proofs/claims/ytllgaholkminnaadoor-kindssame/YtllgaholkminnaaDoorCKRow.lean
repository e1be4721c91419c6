import Derived.Test.YtllgaholkminnaaDoorCKTP
import Derived.Test.YtllgaholkminnaaDoorCKMem
namespace Go.Proofs.YtllgaholkminnaaDoor
open Go.RowKit
set_option linter.unusedVariables false
set_option linter.unusedSimpArgs false

set_option maxHeartbeats 1000000 in
theorem rowKind_any (w : World) (kd : Int) : Calls Tryd.prog 33 #[.int .i64 kd] w fun e w' => e = .returned (.int .i64 (rowKindI kd : Nat)) ∧ w = w' := by
  go_enter Tryd.func33, Tryd.ntmps33
  go_wp2
  all_goals
    go_ret
    refine ⟨ret_int ?_, rfl⟩
    unfold rowKindI
    simp at *
    simp [*]

/-- a whole row of numbers, some below zero -/
structure IRow (W : World) (fb : Nat) (xs : List Int) : Prop where
  ex : ∃ C : Array Value, W.heap[fb]? = some (.cells C 3 (0, 0)) ∧ C.size = xs.length ∧ ∀ j, j < xs.length → C[j]? = some (.int .i64 (xs.getD j 0))
theorem IRow.cell {W : World} {fb : Nat} {xs : List Int} (h : IRow W fb xs) (j : Nat) (hj : j < xs.length) : W.cell? ⟨fb, j, none⟩ = some (.int .i64 (xs.getD j 0)) := by
  obtain ⟨C, h1, h2, h3⟩ := h.ex
  rw [cell_of_row W fb j C 3 (0, 0) h1]
  exact h3 j hj
theorem IRow.frozen {W : World} {fb : Nat} {xs : List Int} (h : IRow W fb xs) (j : Nat) : W.frozen? ⟨fb, j, none⟩ = false := by
  obtain ⟨C, h1, _⟩ := h.ex
  simp [World.frozen?, h1]
theorem IRow.lt {W : World} {fb : Nat} {xs : List Int} (h : IRow W fb xs) : fb < W.heap.size := by
  obtain ⟨C, h1, _⟩ := h.ex
  exact (Array.getElem?_eq_some_iff.1 h1).1
theorem IRow.same {W W' : World} {fb : Nat} {xs : List Int} (h : IRow W fb xs) (hb : W'.heap[fb]? = W.heap[fb]?) : IRow W' fb xs := by
  obtain ⟨C, h1, h2⟩ := h.ex
  exact ⟨C, by rw [hb]; exact h1, h2⟩
theorem IRow.below {W W' : World} {fb : Nat} {xs : List Int} (h : IRow W fb xs) (hb : Below W.heap.size W W') : IRow W' fb xs := h.same (hb.block fb h.lt)
theorem IRow.set {W : World} {fb : Nat} {xs : List Int} (h : IRow W fb xs) (i : Nat) (x : Int) (hi : i < xs.length) : IRow (W.setCell ⟨fb, i, none⟩ (.int .i64 x)) fb (xs.set i x) := by
  obtain ⟨C, h1, h2, h3⟩ := h.ex
  refine ⟨C.setIfInBounds i (.int .i64 x), heap_setCell_same W fb i C 3 _ h1, by simp [h2], fun j hj => ?_⟩
  simp only [List.length_set] at hj
  rw [Array.getElem?_setIfInBounds]
  simp only [List.getD_eq_getElem?_getD, List.getElem?_set]
  by_cases e : i = j
  · subst e
    rw [if_pos rfl, if_pos (by omega), if_pos rfl, if_pos hi]
    rfl
  · rw [if_neg e, if_neg e, h3 j hj, List.getD_eq_getElem?_getD]
def tabL (n : Nat) (f : Nat → Int) : List Int := (List.range n).map f
theorem tabL_len (n : Nat) (f : Nat → Int) : (tabL n f).length = n := by simp [tabL]
theorem tabL_at (n : Nat) (f : Nat → Int) (i : Nat) (h : i < n) : (tabL n f).getD i 0 = f i := by simp [tabL, List.getD_eq_getElem?_getD, h]
theorem tabL_set (n : Nat) (f g : Nat → Int) (k : Nat) (v : Int) (h1 : g k = v) (h2 : ∀ i, i < n → i ≠ k → g i = f i) : (tabL n f).set k v = tabL n g := by
  apply List.ext_getElem
  · simp [tabL]
  · intro i q1 q2
    simp only [tabL, List.getElem_set, List.getElem_map, List.getElem_range]
    by_cases e : k = i
    · subst e; rw [if_pos rfl, h1]
    · rw [if_neg e, h2 i (by simpa [tabL] using q2) (fun q => e q.symm)]
theorem irow_zeros (w : World) (N : Nat) : IRow (w.alloc (.cells (zeros N) 3)) w.heap.size (tabL N (fun _ => 0)) := by
  refine ⟨zeros N, heap_alloc_new w _, by simp [zeros, madeCells, tabL], fun j hj => ?_⟩
  rw [tabL_len] at hj
  rw [tabL_at _ _ _ hj]
  simp [zeros, madeCells, hj, Nat.mod_one]
def fillF (l : List Nd) (k : Nat) (i : Nat) : Int := if i < k then ownOf l i else 0
def turnF (l : List Nd) (ρ : Nat → Nat) (k : Nat) (i : Nat) : Int := if i < k then ownOf l (ρ i) else ownOf l i
theorem fillF_other {l : List Nd} {k i : Nat} (hi : i ≠ k) : fillF l (k + 1) i = fillF l k i := by
  unfold fillF
  by_cases q : i < k
  · rw [if_pos q, if_pos (by omega)]
  · rw [if_neg q, if_neg (by omega)]
theorem turnF_other {l : List Nd} {ρ : Nat → Nat} {k i : Nat} (hi : i ≠ k) : turnF l ρ (k + 1) i = turnF l ρ k i := by
  unfold turnF
  by_cases q : i < k
  · rw [if_pos q, if_pos (by omega)]
  · rw [if_neg q, if_neg (by omega)]
theorem countI_le (l : List Nd) : ∀ k, countI l k ≤ k
  | 0 => Nat.le_refl _
  | k + 1 => by
    have := countI_le l k
    unfold countI
    split <;> omega
/-- in the midst of rowNumbers -/
structure RnS (w wr : World) (l : List Nd) (mb : Nat) (ms : List Nat) (f : Nat → Int) : Prop where
  bel : Below mb w wr
  row : IRow wr w.heap.size (tabL l.length f)
  mrow : NRow wr mb ms
  mlen : ms.length = l.length
theorem RnS.ext {w wr wr' : World} {l : List Nd} {mb : Nat} {ms : List Nat} {f : Nat → Int} (h : RnS w wr l mb ms f) (hb : Below wr.heap.size wr wr') : RnS w wr' l mb ms f :=
  ⟨h.bel.trans (hb.mono (Nat.le_of_lt h.mrow.lt)), h.row.below hb, h.mrow.below hb, h.mlen⟩
theorem RnS.put {w wr : World} {l : List Nd} {mb : Nat} {ms : List Nat} {f g : Nat → Int} (h : RnS w wr l mb ms f) (hm : mb < w.heap.size) (k : Nat) (v : Int) (hk : k < l.length) (h1 : g k = v) (h2 : ∀ i, i < l.length → i ≠ k → g i = f i) : RnS w (wr.setCell ⟨w.heap.size, k, none⟩ (.int .i64 v)) l mb ms g := by
  refine ⟨(Only.set w.heap.size wr k _).bel _ _ (by omega) h.bel, ?_, h.mrow.same ((Only.set w.heap.size wr k _).block _ (by omega)), h.mlen⟩
  have := h.row.set k v (by rw [tabL_len]; exact hk)
  rw [tabL_set l.length f g k v h1 h2] at this
  exact this
theorem RnS.conv {w wr : World} {l : List Nd} {mb : Nat} {ms : List Nat} {f g : Nat → Int} (h : RnS w wr l mb ms f) (e : ∀ i, i < l.length → f i = g i) : RnS w wr l mb ms g := by
  refine ⟨h.bel, ?_, h.mrow, h.mlen⟩
  have : tabL l.length f = tabL l.length g := List.map_congr_left fun i hi => e i (by simpa using hi)
  rw [← this]
  exact h.row
theorem RnS.only {w wr wr' : World} {l : List Nd} {mb : Nat} {ms ms' : List Nat} {f : Nat → Int} (h : RnS w wr l mb ms f) (hm : mb < w.heap.size) (ho : Only mb wr wr') (hr : NRow wr' mb ms') (hl : ms'.length = l.length) : RnS w wr' l mb ms' f :=
  ⟨ho.bel _ _ (Nat.le_refl _) h.bel, h.row.same (ho.block _ (by omega)), hr, hl⟩

set_option maxRecDepth 100000 in
set_option maxHeartbeats 4000000 in
theorem rowNumbers_any (w : World) (B nb no nc mb : Nat) (l : List Nd) (ms : List Nat) (ρ d : Nat → Nat) (hn : Nodes w B nb no nc l) (hBm : B ≤ mb) (hms : NRow w mb ms) (hml : ms.length = l.length) (hu : UF ms ρ d) (hl31 : l.length ≤ 2147483647) :
    Calls Tryd.prog 29 #[.slice (some ⟨nb, no, none⟩) l.length nc, .slice (some ⟨mb, 0, none⟩) l.length l.length] w fun e w' => e = .returned (.slice (some ⟨w.heap.size, 0, none⟩) l.length l.length) ∧ Bx (IRow w' w.heap.size (tabL l.length fun i => ownOf l (ρ i)) ∧ Below mb w w') := by
  have hmk := make_ints w l.length hl31
  have hmb := hms.lt
  have HU : Bx _ := ⟨hu⟩
  have HN : Bx _ := ⟨hn⟩
  have hnb := hn.lo
  have HS0 : Bx (RnS w (w.alloc (.cells (zeros l.length) 3)) l mb ms (fillF l 0)) := ⟨(RnS.mk (f := fun _ => 0) ((below1 w _).mono (by omega)) (irow_zeros w _) (hms.below (below1 w _)) hml).conv fun i _ => by simp [fillF]⟩
  have HRK : Bx _ := ⟨rowKind_any⟩
  clear hn hms hu hml
  go_enter Tryd.func29, Tryd.ntmps29
  go_wp2
  go_loopw [15, 6] (fun x c wr => ∃ k : Nat, k ≤ l.length ∧ x = .int .i64 k ∧ c = .int .i64 (countI l k : Nat) ∧ Bx (RnS w wr l mb ms (fillF l k))) (fun x _ _ => l.length - (intOf x).toNat)
  case atStart => exact ⟨0, Nat.zero_le _, rfl, rfl, HS0⟩
  case round =>
    obtain ⟨k, hk, rfl, rfl, HS⟩ := hrel
    clear HS0
    by_cases hlt : k < l.length
    · obtain ⟨ka, kc, hnd⟩ := (HN.out.below (HS.out.bel.mono hBm)).at_ k hlt
      obtain ⟨c0, c1, c2, c3, c4⟩ := hnd.five
      have g1 := HS.out.row.cell k (by rw [tabL_len]; exact hlt)
      have g2 := HS.out.row.frozen k
      have g3 := HS.out.row.lt
      have hcl := countI_le l k
      generalize (tabL l.length (fillF l k)).getD k 0 = old at *
      by_cases hrk : rowKindI (kdN l k) = 0
      · have HX : Bx (∀ o, RnS w ((wr.setCell ⟨w.heap.size, k, none⟩ (.int .i64 (-1))).alloc o) l mb ms (fillF l (k + 1))) := ⟨fun o => (HS.out.put hmb k (-1) hlt (by unfold fillF ownOf; rw [if_pos (by omega), if_pos hrk]) (fun i _ hi => fillF_other hi)).ext (below1 _ _)⟩
        have HC : Bx (countI l (k + 1) = countI l k) := ⟨by rw [countI, if_pos hrk]; rfl⟩
        unfold kdN at hrk
        clear hnd HS
        have HRK2 : Bx (∀ W, Calls Tryd.prog 33 #[.int .i64 (ndN l k).kind] W fun e w' => e = .returned (.int .i64 0) ∧ W = w') := ⟨fun W => by have := HRK.out W (ndN l k).kind; rw [hrk] at this; exact this⟩
        clear hrk
        generalize (ndN l k).kids.length = nk at *
        generalize (ndN l k).kind = kd at *
        generalize (ndN l k).pos = ps at *
        generalize (ndN l k).name = nm at *
        generalize (ndN l k).num = num at *
        go_wp2_with (first | (go_at_call 33; refine Calls.mono (HRK2.out _) ?_; rintro e w2 ⟨rfl, rfl⟩))
        go_roundw
        case rel => exact ⟨k + 1, by omega, by go_num, by rw [HC.out], ⟨HX.out _⟩⟩
        case measure => simp [intOf]; omega
      · have HX : Bx (∀ o, RnS w (((wr.setCell ⟨w.heap.size, k, none⟩ (.int .i64 (-1))).setCell ⟨w.heap.size, k, none⟩ (.int .i64 (countI l k : Nat))).alloc o) l mb ms (fillF l (k + 1))) := ⟨fun o => ((HS.out.put (g := fun i => if i = k then -1 else fillF l k i) hmb k (-1) hlt (by simp) (fun i _ hi => by simp [hi])).put hmb k (countI l k : Nat) hlt (by unfold fillF ownOf; rw [if_pos (by omega), if_neg hrk]) (fun i _ hi => by rw [if_neg hi]; exact fillF_other hi)).ext (below1 _ _)⟩
        have HC : Bx (countI l (k + 1) = countI l k + 1) := ⟨by rw [countI, if_neg hrk]⟩
        unfold kdN at hrk
        clear hnd HS
        obtain ⟨z, hz⟩ : ∃ z, z = rowKindI (ndN l k).kind := ⟨_, rfl⟩
        have HRK2 : Bx (∀ W, Calls Tryd.prog 33 #[.int .i64 (ndN l k).kind] W fun e w' => e = .returned (.int .i64 (z : Nat)) ∧ W = w') := ⟨fun W => by rw [hz]; exact HRK.out W (ndN l k).kind⟩
        rw [← hz] at hrk
        have hz2 : ((z : Int) != 0) = true := by rw [bne_iff_ne]; omega
        clear hrk hz
        generalize (ndN l k).kids.length = nk at *
        generalize (ndN l k).kind = kd at *
        generalize (ndN l k).pos = ps at *
        generalize (ndN l k).name = nm at *
        generalize (ndN l k).num = num at *
        generalize countI l k = ct at *
        go_wp2_with (first | (go_at_call 33; refine Calls.mono (HRK2.out _) ?_; rintro e w2 ⟨rfl, rfl⟩))
        go_roundw
        case rel => exact ⟨k + 1, by omega, by go_num, by rw [HC.out]; go_num, ⟨HX.out _⟩⟩
        case measure => simp [intOf]; omega
    · have hke : k = l.length := by omega
      subst hke
      have HT0 : Bx (RnS w wr l mb ms (turnF l ρ 0)) := ⟨HS.out.conv fun i hi => by simp [turnF, fillF, hi]⟩
      clear HS
      go_wp2
      go_loopw [36] (fun x wr => ∃ (k : Nat) (ms : List Nat), k ≤ l.length ∧ x = .int .i64 k ∧ Bx (RnS w wr l mb ms (turnF l ρ k) ∧ UF ms ρ d)) (fun x _ => l.length - (intOf x).toNat)
      case atStart => exact ⟨0, ms, Nat.zero_le _, rfl, ⟨HT0.out, HU.out⟩⟩
      case round =>
        obtain ⟨k, ms', hk, rfl, HS⟩ := hrel
        clear HT0
        by_cases hlt : k < l.length
        · have HL : Bx _ := ⟨last_any wr mb l.length ms' ρ d k HS.out.1.mlen HS.out.1.mrow HS.out.2 hlt hl31⟩
          have hrl := (HS.out.2.rl k (by rw [HS.out.1.mlen]; exact hlt)).1
          rw [HS.out.1.mlen] at hrl
          have hid := HS.out.2.idem (i := k) (by rw [HS.out.1.mlen]; exact hlt)
          have HX : Bx (∀ w1 ms2, ms2.length = l.length → NRow w1 mb ms2 → UF ms2 ρ d → Only mb wr w1 → (RnS w (w1.setCell ⟨w.heap.size, k, none⟩ (.int .i64 (ownOf l (ρ k)))) l mb ms2 (turnF l ρ (k + 1)) ∧ UF ms2 ρ d) ∧ w1.cell? ⟨w.heap.size, ρ k, none⟩ = some (.int .i64 (ownOf l (ρ k))) ∧ (∃ x, w1.cell? ⟨w.heap.size, k, none⟩ = some (.int .i64 x)) ∧ w1.frozen? ⟨w.heap.size, k, none⟩ = false ∧ w.heap.size < w1.heap.size) := ⟨fun w1 ms2 h1 h2 h3 h4 => by
            have q := HS.out.1.only hmb h4 h2 h1
            refine ⟨⟨q.put hmb k _ hlt (by unfold turnF; rw [if_pos (by omega)]) (fun i _ hi => turnF_other hi), h3⟩, ?_, ⟨_, q.row.cell k (by rw [tabL_len]; exact hlt)⟩, q.row.frozen k, q.row.lt⟩
            have := q.row.cell (ρ k) (by rw [tabL_len]; exact hrl)
            rw [tabL_at _ _ _ hrl] at this
            rw [this]
            unfold turnF
            split
            · rw [hid]
            · rfl⟩
          have hid2 : Bx _ := ⟨hid⟩
          clear HS hid hid2
          generalize ownOf l (ρ k) = z at *
          obtain ⟨r, hr⟩ : ∃ r, r = ρ k := ⟨_, rfl⟩
          rw [← hr] at HL HX hrl
          clear hr
          go_wp2_with (first | (go_at_call 24; refine Calls.mono HL.out ?_; rintro e w1 ⟨rfl, ms2, q1, q2, q3, q4⟩; obtain ⟨X1, X2, ⟨X3v, X3⟩, X4, X5⟩ := HX.out w1 ms2 q1 q2 q3 q4; have X1B : Bx _ := ⟨X1⟩; clear X1 q1 q2 q3 q4))
          go_roundw
          case rel => exact ⟨k + 1, ms2, by omega, by go_num, X1B⟩
          case measure => simp [intOf]; omega
        · have hke : k = l.length := by omega
          subst hke
          go_wp2
          go_ret
          refine ⟨rfl, ⟨?_, HS.out.1.bel⟩⟩
          exact (HS.out.1.conv (g := fun i => ownOf l (ρ i)) fun i hi => by simp [turnF, hi]).row
end Go.Proofs.YtllgaholkminnaaDoor
namespace Go.Proofs.YtllgaholkminnaaDoor
open Go.RowKit
set_option linter.unusedVariables false
set_option linter.unusedSimpArgs false

def tyC (r : Ty) (g : Nat) : List Value := [.int .i64 r.kind, .slice (some ⟨g, 0, none⟩) r.kids.length r.kids.length, .bool r.res]
def tysC : List Ty → List Nat → List Value
  | r :: T, g :: ks => tyC r g ++ tysC T ks
  | _, _ => []
theorem tysC_len : ∀ (T : List Ty) (ks : List Nat), ks.length = T.length → (tysC T ks).length = T.length * 3
  | [], [], _ => rfl
  | r :: T, g :: ks, h => by
    have := tysC_len T ks (by simpa using h)
    simp only [tysC, tyC, List.length_append, List.length_cons, List.length_nil, this]
    omega
theorem tysC_snoc (r : Ty) (g : Nat) : ∀ (T : List Ty) (ks : List Nat), ks.length = T.length → tysC (T ++ [r]) (ks ++ [g]) = tysC T ks ++ tyC r g
  | [], [], _ => by simp [tysC]
  | r' :: T, g' :: ks, h => by
    have := tysC_snoc r g T ks (by simpa using h)
    simp only [List.cons_append, tysC, this, List.append_assoc]
theorem tysC_at : ∀ (T : List Ty) (ks : List Nat), ks.length = T.length → ∀ j, j < T.length → ∀ i, i < 3 → (tysC T ks)[j * 3 + i]? = (tyC (tyN T j) (ks.getD j 0))[i]?
  | r :: T, g :: ks, h, 0, _, i, hi => by
    simp only [tysC, tyN, List.getD_cons_zero, Nat.zero_mul, Nat.zero_add]
    rw [List.getElem?_append_left (by simpa [tyC] using hi)]
  | r :: T, g :: ks, h, j + 1, hj, i, hi => by
    have := tysC_at T ks (by simpa using h) j (by simpa using hj) i hi
    simp only [tysC]
    rw [List.getElem?_append_right (by simp [tyC]; omega), show (j + 1) * 3 + i - (tyC r g).length = j * 3 + i by simp [tyC]; omega, this]
    rfl
/-- types that are made: a row of one's own, and a row for the kids of each -/
structure TysO (W : World) (b0 : Nat) (v : Value) (T : List Ty) : Prop where
  ex : ∃ ks : List Nat, ks.length = T.length ∧ W.ownsRow b0 32 3 v T.length (tysC T ks) ∧ ∀ j, j < T.length → IRow W (ks.getD j 0) (tyN T j).kids ∧ b0 ≤ ks.getD j 0
theorem tysO_nil (W : World) (b0 : Nat) : TysO W b0 (.slice none 0 0) [] := ⟨[], rfl, World.ownsRow_nil _ _ _ _, fun j hj => absurd hj (by simp)⟩
theorem TysO.ext {W W' : World} {b0 : Nat} {v : Value} {T : List Ty} (h : TysO W b0 v T) (hb : Below W.heap.size W W') : TysO W' b0 v T := by
  obtain ⟨ks, h1, h2, h3⟩ := h.ex
  exact ⟨ks, h1, owns_same h2 fun g _ hg => hb.block g hg, fun j hj => ⟨(h3 j hj).1.below hb, (h3 j hj).2⟩⟩
theorem tyN_left {T : List Ty} {r : Ty} {j : Nat} (h : j < T.length) : tyN (T ++ [r]) j = tyN T j := by
  unfold tyN; simp only [List.getD_eq_getElem?_getD]; rw [List.getElem?_append_left h]
theorem tyN_last (T : List Ty) (r : Ty) : tyN (T ++ [r]) T.length = r := by
  unfold tyN; simp [List.getD_eq_getElem?_getD]
theorem TysO.push {W w8 : World} {b0 : Nat} {v : Value} {T : List Ty} {r : Ty} {g0 : Nat} {o : Obj} (h : TysO W b0 v T) (hk : IRow W g0 r.kids) (hg0 : b0 ≤ g0) (hg : (W.alloc o).grownBy w8 v.ownBlock) {g cap : Nat}
    (hown : ∀ cs, W.ownsRow b0 32 3 v T.length cs → w8.ownsRow b0 32 3 (.slice (some ⟨g, 0, none⟩) (T.length + 1) cap) (T.length + 1) (cs ++ tyC r g0)) : TysO w8 b0 (.slice (some ⟨g, 0, none⟩) (T.length + 1) cap) (T ++ [r]) := by
  obtain ⟨ks, h1, h2, h3⟩ := h.ex
  have keep : ∀ x (xs : List Int), IRow W x xs → IRow w8 x xs := fun x xs hx => by
    refine hx.same ?_
    have hlt := hx.lt
    rw [hg.block x (by simp; omega) (fun e => ?_), (below1 W o).block x hlt]
    obtain ⟨C, q1, _⟩ := hx.ex
    rcases h2.2 with ⟨rfl, _⟩ | ⟨g', cp, cur, rfl, _, hgg, _⟩
    · cases e
    · simp only [Value.ownBlock, Option.some.injEq] at e
      subst e
      rw [q1] at hgg
      simp only [Option.some.injEq, Obj.cells.injEq] at hgg
      exact absurd hgg.2.1 (by decide)
  refine ⟨ks ++ [g0], by simp [h1], ?_, fun j hj => ?_⟩
  · rw [tysC_snoc r g0 T ks h1, List.length_append]
    exact hown _ h2
  · by_cases e : j < T.length
    · rw [tyN_left e]
      have : (ks ++ [g0]).getD j 0 = ks.getD j 0 := by simp only [List.getD_eq_getElem?_getD]; rw [List.getElem?_append_left (by omega)]
      rw [this]
      exact ⟨keep _ _ (h3 j e).1, (h3 j e).2⟩
    · have : j = T.length := by simp at hj; omega
      subst this
      rw [tyN_last]
      have : (ks ++ [g0]).getD T.length 0 = g0 := by rw [← h1]; simp [List.getD_eq_getElem?_getD]
      rw [this]
      exact ⟨keep _ _ hk, hg0⟩
theorem IRow.ints {W : World} {g : Nat} {xs : List Int} (h : IRow W g xs) (hm : xs.length ≤ maxLen) : IntsV W W.heap.size (.slice (some ⟨g, 0, none⟩) xs.length xs.length) xs := by
  refine ⟨_, _, rfl, Nat.le_refl _, hm, fun _ => ⟨g, 0, rfl, h.lt, fun i hi => ?_⟩⟩
  rw [Nat.zero_add, h.cell i hi, List.getD_eq_getElem?_getD, List.getElem?_eq_getElem hi]
  rfl
theorem TysO.types {W : World} {b0 : Nat} {v : Value} {T : List Ty} (h : TysO W b0 v T) (h0 : 0 < T.length) (hwf : ∀ j, j < T.length → TyWf (tyN T j)) (hm : ∀ j, j < T.length → (tyN T j).kids.length ≤ maxLen) : ∃ g cap, v = .slice (some ⟨g, 0, none⟩) T.length cap ∧ Types W W.heap.size g 0 cap T := by
  obtain ⟨ks, h1, h2, h3⟩ := h.ex
  rcases h2.2 with ⟨_, hn⟩ | ⟨g, cap, cur, rfl, hB, hgg, q1, q2, q3, q4⟩
  · omega
  · have hc : ∀ j, j < T.length → ∀ i, i < 3 → W.cell? ⟨g, 0 + j * 3 + i, none⟩ = (tyC (tyN T j) (ks.getD j 0))[i]? := fun j hj i hi => by
      rw [Nat.zero_add, cell_of_row W g _ cur _ (0, 0) hgg, ← tysC_at T ks h1 j hj i hi, ← q4, List.getElem?_take_of_lt (by omega), Array.getElem?_toList]
    refine ⟨g, cap, rfl, ⟨fun j hj => ⟨some ⟨ks.getD j 0, 0, none⟩, (tyN T j).kids.length, ?_, ?_, ?_, ?_⟩, hwf, (Array.getElem?_eq_some_iff.1 hgg).1, Nat.le_refl _, by omega, q1⟩⟩
    · exact hc j hj 0 (by omega)
    · exact hc j hj 1 (by omega)
    · exact hc j hj 2 (by omega)
    · exact (h3 j hj).1.ints (hm j hj)
def zeroTy : Value := .agg #[.int .i64 0, .slice none 0 0, .bool false]
theorem infoTy : (Tryd.prog.info? 32).map (fun i => (i.zero, i.size, i.bytes)) = some (some zeroTy, 3, 40) := by kernel_rfl
theorem ty_news (X : World) (H : Nat) (hH : X.heap.size = H) (a b c : Value) : ∀ (j : Nat) (u : Value), [a, b, c][j]? = some u → (X.alloc (.cells #[a, b, c] 32)).cell? ((⟨H, 0, none⟩ : Addr).add j) = some u := by
  subst hH
  exact World.news_of_block (w := X.alloc (.cells #[a, b, c] 32)) (cs := #[a, b, c]) (heap_alloc_new X (.cells #[a, b, c] 32))
theorem ty_one (a : Int) (k : Option Addr) (m c : Nat) (r : Bool) : ∀ u ∈ [Value.int .i64 a, .slice k m c, .bool r], u.oneCell' = true := by
  intro u hu
  simp at hu
  rcases hu with rfl | rfl | rfl <;> rfl
theorem rowsGo_le (l : List Nd) (of : Nat → Int) : ∀ k, (rowsGo l of k).length ≤ k
  | 0 => Nat.le_refl _
  | k + 1 => by
    have := rowsGo_le l of k
    rw [rowsGo, List.length_append]
    split <;> simp <;> omega
/-- the kids of what has a row are nodes -/
def KidsIn (l : List Nd) : Prop := ∀ i, i < l.length → rowKindI (kdN l i) ≠ 0 → ∀ k ∈ (ndN l i).kids, 0 ≤ k ∧ k < (l.length : Int)
def kidF (of : Nat → Int) (ks : List Int) (p i : Nat) : Int := if i < p then of (ks.getD i 0).toNat else 0
theorem kidF_other {of : Nat → Int} {ks : List Int} {k i : Nat} (hi : i ≠ k) : kidF of ks (k + 1) i = kidF of ks k i := by
  unfold kidF
  by_cases q : i < k
  · rw [if_pos q, if_pos (by omega)]
  · rw [if_neg q, if_neg (by omega)]
theorem kidF_end (of : Nat → Int) (ks : List Int) : tabL ks.length (kidF of ks ks.length) = ks.map fun k => of k.toNat := by
  apply List.ext_getElem
  · simp [tabL]
  · intro i h1 h2
    have hi : i < ks.length := by simpa using h2
    simp [tabL, kidF, hi, List.getD_eq_getElem?_getD]
end Go.Proofs.YtllgaholkminnaaDoor
namespace Go.Proofs.YtllgaholkminnaaDoor
open Go.RowKit
set_option linter.unusedVariables false
set_option linter.unusedSimpArgs false

theorem rowsGo_skip {l : List Nd} {of : Nat → Int} {k : Nat} (h : rowKindI (kdN l k) = 0) : rowsGo l of (k + 1) = rowsGo l of k := by rw [rowsGo, if_pos h, List.append_nil]
theorem rowsGo_put {l : List Nd} {of : Nat → Int} {k : Nat} (h : rowKindI (kdN l k) ≠ 0) : rowsGo l of (k + 1) = rowsGo l of k ++ [⟨rowKindI (kdN l k), (ndN l k).kids.map fun k => of k.toNat, (ndN l k).num == 1⟩] := by rw [rowsGo, if_neg h]

set_option maxRecDepth 100000 in
set_option maxHeartbeats 4000000 in
theorem rows_any (w : World) (B nb no nc ob : Nat) (l : List Nd) (of : Nat → Int) (hn : Nodes w B nb no nc l) (hof : IRow w ob (tabL l.length of)) (hki : KidsIn l) (hl31 : l.length ≤ 2147483647) (hkl : ∀ i, i < l.length → (ndN l i).kids.length ≤ 2147483647) :
    Calls Tryd.prog 30 #[.slice (some ⟨nb, no, none⟩) l.length nc, .slice (some ⟨ob, 0, none⟩) l.length l.length] w fun e w' => ∃ v, e = .returned v ∧ Bx (TysO w' w.heap.size v (rowsGo l of l.length) ∧ Below w.heap.size w w') := by
  have hob := hof.lt
  have HN : Bx _ := ⟨hn⟩
  have HOF : Bx _ := ⟨hof⟩
  have HKI : Bx _ := ⟨hki⟩
  have HKL : Bx _ := ⟨hkl⟩
  have hnb := hn.lo
  have hB := hn.hi
  have HRK : Bx _ := ⟨rowKind_any⟩
  obtain ⟨i0, hi, hz0, hz1, hz2⟩ := info_parts infoTy
  clear hn hof hki hkl
  go_enter Tryd.func30, Tryd.ntmps30
  go_wp2
  go_loopw [14, 5] (fun x v wr => ∃ (k : Nat) (vv : Value), k ≤ l.length ∧ x = .int .i64 k ∧ vv = v ∧ Bx (TysO wr w.heap.size vv (rowsGo l of k) ∧ Below w.heap.size w wr)) (fun x _ _ => l.length - (intOf x).toNat)
  case atStart => exact ⟨0, _, Nat.zero_le _, rfl, rfl, ⟨tysO_nil _ _, Below.refl _ _⟩⟩
  case round =>
    obtain ⟨k, vv, hk, rfl, rfl, HS⟩ := hrel
    by_cases hlt : k < l.length
    · have hsz := HS.out.2.size
      obtain ⟨ka, kc, hnd⟩ := (HN.out.below (HS.out.2.mono hB)).at_ k hlt
      obtain ⟨c0, c1, c2, c3, c4⟩ := hnd.five
      by_cases hrk : rowKindI (kdN l k) = 0
      · have HX : Bx (∀ o, TysO (wr.alloc o) w.heap.size vv (rowsGo l of (k + 1)) ∧ Below w.heap.size w (wr.alloc o)) := ⟨fun o => ⟨by rw [rowsGo_skip hrk]; exact HS.out.1.ext (below1 _ _), HS.out.2.trans ((below1 _ _).mono hsz)⟩⟩
        unfold kdN at hrk
        have HRK2 : Bx (∀ W, Calls Tryd.prog 33 #[.int .i64 (ndN l k).kind] W fun e w' => e = .returned (.int .i64 0) ∧ W = w') := ⟨fun W => by have := HRK.out W (ndN l k).kind; rw [hrk] at this; exact this⟩
        clear hnd HS hrk
        generalize (ndN l k).kids.length = nk at *
        generalize (ndN l k).kind = kd at *
        generalize (ndN l k).pos = ps at *
        generalize (ndN l k).name = nm at *
        generalize (ndN l k).num = num at *
        go_wp2_with (first | (go_at_call 33; refine Calls.mono (HRK2.out _) ?_; rintro e w2 ⟨rfl, rfl⟩))
        go_roundw
        case rel => exact ⟨k + 1, _, by omega, by go_num, rfl, ⟨HX.out _⟩⟩
        case measure => simp [intOf]; omega
      · have hkk := HKL.out k hlt
        have HP := rowsGo_put (of := of) hrk
        have hle := rowsGo_le l of k
        have HKN : Bx (∀ p (h : p < (ndN l k).kids.length), 0 ≤ (ndN l k).kids[p] ∧ (ndN l k).kids[p] < (l.length : Int)) := ⟨fun p h => HKI.out k hlt hrk _ (List.getElem_mem h)⟩
        obtain ⟨z, hz⟩ : ∃ z, z = rowKindI (ndN l k).kind := ⟨_, rfl⟩
        have HRK2 : Bx (∀ W, Calls Tryd.prog 33 #[.int .i64 (ndN l k).kind] W fun e w' => e = .returned (.int .i64 (z : Nat)) ∧ W = w') := ⟨fun W => by rw [hz]; exact HRK.out W (ndN l k).kind⟩
        unfold kdN at hrk HP
        rw [← hz] at hrk HP
        have hz2' : ((z : Int) == 0) = false := by rw [beq_eq_false_iff_ne]; omega
        have HK : Bx _ := ⟨hnd.kids⟩
        clear hrk hz hnd
        generalize (ndN l k).kind = kd at *
        generalize (ndN l k).pos = ps at *
        generalize (ndN l k).name = nm at *
        generalize hnum : (ndN l k).num = num at *
        generalize (ndN l k).kids = ks at *
        obtain ⟨W1, hW1⟩ : ∃ W1, W1 = wr.alloc (.cells #[.int .i64 kd, .int .i64 ps, .slice ka ks.length kc, .string nm, .int .i64 num] 37) := ⟨_, rfl⟩
        have hs1 : W1.heap.size = wr.heap.size + 1 := by rw [hW1]; simp
        have hmk := make_ints W1 ks.length hkk
        rw [hs1] at hmk
        have HW1 : Bx (TysO W1 w.heap.size vv (rowsGo l of k) ∧ Below w.heap.size w W1) := ⟨by rw [hW1]; exact HS.out.1.ext (below1 _ _), by rw [hW1]; exact HS.out.2.trans ((below1 _ _).mono hsz)⟩
        have HW2 : Bx (Below W1.heap.size W1 (W1.alloc (.cells (zeros ks.length) 3)) ∧ IRow (W1.alloc (.cells (zeros ks.length) 3)) (wr.heap.size + 1) (tabL ks.length (kidF of ks 0))) := ⟨below1 _ _, by
          have := irow_zeros W1 ks.length
          rw [hs1] at this
          have e : tabL ks.length (fun _ => (0 : Int)) = tabL ks.length (kidF of ks 0) := List.map_congr_left fun i _ => by simp [kidF]
          rw [← e]
          exact this⟩
        have n2 : W1.cell? ⟨wr.heap.size, 2, none⟩ = some (.slice ka ks.length kc) := by rw [hW1]; exact (cell_of_row _ _ 2 _ _ _ (heap_alloc_new wr _)).trans rfl
        have n4 : W1.cell? ⟨wr.heap.size, 4, none⟩ = some (.int .i64 num) := by rw [hW1]; exact (cell_of_row _ _ 4 _ _ _ (heap_alloc_new wr _)).trans rfl
        have HN4 : Bx (∀ W, Below W1.heap.size W1 W → W.cell? ⟨wr.heap.size, 4, none⟩ = some (.int .i64 num)) := ⟨fun W hb => by rw [hb.cell (p := ⟨wr.heap.size, 4, none⟩) (by show wr.heap.size < _; omega)]; exact n4⟩
        have HKC : Bx (∀ W, Below W1.heap.size W1 W → ∀ p (h : p < ks.length), ∃ b o, ka = some ⟨b, o, none⟩ ∧ W.cell? ⟨b, o + p, none⟩ = some (.int .i64 ks[p])) := ⟨fun W hb p hp => by
          obtain ⟨a, cap, he, h1, h2, h3⟩ := HK.out.ex
          simp only [Value.slice.injEq, true_and] at he
          obtain ⟨rfl, rfl⟩ := he
          obtain ⟨b, o, rfl, hbB, hcell⟩ := h3 (by omega)
          refine ⟨b, o, rfl, ?_⟩
          rw [hb.cell (p := ⟨b, o + p, none⟩) (by show b < _; omega), hW1, (below1 wr _).cell (p := ⟨b, o + p, none⟩) (by show b < _; omega)]
          exact hcell p hp⟩
        have hcap : ks.length ≤ kc := by
          obtain ⟨a, cap, he, h1, h2, h3⟩ := HK.out.ex
          simp only [Value.slice.injEq, true_and] at he
          omega
        have HOC : Bx (∀ W, Below W1.heap.size W1 W → ∀ i, i < l.length → W.cell? ⟨ob, i, none⟩ = some (.int .i64 (of i))) := ⟨fun W hb i hi => by
          have := (HOF.out.same (W' := W) (by rw [hb.block ob (by omega), hW1, (below1 wr _).block ob (by omega), HS.out.2.block ob hob])).cell i (by rw [tabL_len]; exact hi)
          rw [tabL_at _ _ _ hi] at this
          exact this⟩
        clear HS HK
        have HPB : Bx _ := ⟨HP⟩
        clear HP hnum
        subst hW1
        go_wp2_with (first | (go_at_call 33; refine Calls.mono (HRK2.out _) ?_; rintro e w2 ⟨rfl, rfl⟩))
        generalize wr.alloc (.cells #[.int .i64 kd, .int .i64 ps, .slice ka ks.length kc, .string nm, .int .i64 num] 37) = W1 at *
        generalize wr.heap.size = S1 at *
        clear c0 c1 c2 c3 c4 n2 n4 hmk HRK2
        go_loopw [30] (fun q wr2 => ∃ p : Nat, p ≤ ks.length ∧ q = .int .i64 p ∧ Bx (Below W1.heap.size W1 wr2 ∧ IRow wr2 (S1 + 1) (tabL ks.length (kidF of ks p)))) (fun q _ => ks.length - (intOf q).toNat)
        case atStart => exact ⟨0, Nat.zero_le _, rfl, HW2⟩
        case round =>
          obtain ⟨p, hp, rfl, HQ⟩ := hrel
          clear HW2
          by_cases hplt : p < ks.length
          · obtain ⟨b, o, rfl, g1⟩ := HKC.out wr HQ.out.1 p hplt
            obtain ⟨e1, e2⟩ := HKN.out p hplt
            obtain ⟨m, hm⟩ : ∃ m : Nat, ks[p] = (m : Int) := ⟨ks[p].toNat, by omega⟩
            have hml : m < l.length := by omega
            rw [hm] at g1
            have g2 := HOC.out wr HQ.out.1 m hml
            have g3 := HQ.out.2.cell p (by rw [tabL_len]; exact hplt)
            have g4 := HQ.out.2.frozen p
            have g5 := HQ.out.2.lt
            have HX : Bx (Below W1.heap.size W1 (wr.setCell ⟨S1 + 1, p, none⟩ (.int .i64 (of m))) ∧ IRow (wr.setCell ⟨S1 + 1, p, none⟩ (.int .i64 (of m))) (S1 + 1) (tabL ks.length (kidF of ks (p + 1)))) := ⟨Below.setCell (p := ⟨S1 + 1, p, none⟩) HQ.out.1 (by show W1.heap.size ≤ S1 + 1; omega) _, by
              have := HQ.out.2.set p (of m) (by rw [tabL_len]; exact hplt)
              rw [tabL_set ks.length (kidF of ks p) (kidF of ks (p + 1)) p (of m) (by unfold kidF; rw [if_pos (by omega), List.getD_eq_getElem?_getD, List.getElem?_eq_getElem hplt]; simp [hm]) (fun i _ hi => kidF_other hi)] at this
              exact this⟩
            generalize of m = z2 at *
            generalize (tabL ks.length (kidF of ks p)).getD p 0 = old at *
            clear HQ hm e1 e2
            go_wp2
            go_roundw
            case rel => exact ⟨p + 1, by omega, by go_num, HX⟩
            case measure => simp [intOf]; omega
          · have hpe : p = ks.length := by omega
            subst hpe
            have g1 := HN4.out wr HQ.out.1
            have hlk : (ks.map fun k => of k.toNat).length = ks.length := by simp
            have HIR : Bx (IRow wr (S1 + 1) (ks.map fun k => of k.toNat)) := ⟨by have := HQ.out.2; rw [kidF_end] at this; exact this⟩
            have HT1 : Bx (TysO wr w.heap.size vv (rowsGo l of k) ∧ Below w.heap.size w wr) := ⟨HW1.out.1.ext HQ.out.1, HW1.out.2.trans (HQ.out.1.mono HW1.out.2.size)⟩
            have hsz1 := HW1.out.2.size
            have hsz2 := HQ.out.1.size
            have HPU : Bx (∀ g2 cp2 w8, (wr.alloc (.cells #[.int .i64 (z : Nat), .slice (some ⟨S1 + 1, 0, none⟩) ks.length ks.length, .bool (num == 1)] 32)).grownBy w8 vv.ownBlock → (∀ cs, wr.ownsRow w.heap.size 32 3 vv (rowsGo l of k).length cs → w8.ownsRow w.heap.size 32 3 (.slice (some ⟨g2, 0, none⟩) ((rowsGo l of k).length + 1) cp2) ((rowsGo l of k).length + 1) (cs ++ [.int .i64 (z : Nat), .slice (some ⟨S1 + 1, 0, none⟩) ks.length ks.length, .bool (num == 1)])) → TysO w8 w.heap.size (.slice (some ⟨g2, 0, none⟩) ((rowsGo l of k).length + 1) cp2) (rowsGo l of (k + 1)) ∧ Below w.heap.size w w8) := ⟨fun g2 cp2 w8 hg ho => by
              obtain ⟨ks2, q1, q2, q3⟩ := HT1.out.1.ex
              refine ⟨?_, ?_⟩
              · rw [HPB.out]
                refine HT1.out.1.push (r := ⟨z, ks.map fun k => of k.toNat, num == 1⟩) (g0 := S1 + 1) HIR.out (by omega) hg (fun cs hcs => ?_)
                have := ho cs hcs
                unfold tyC
                simp only [hlk]
                exact this
              · exact (HT1.out.2.trans ((below1 _ _).mono (by omega))).grown hg (by simp; omega) (fun x hx => (owns_block q2 hx).1)⟩
            obtain ⟨ks2, q1, q2, q3⟩ := HT1.out.1.ex
            have HOW : Bx ((wr.alloc (.cells #[.int .i64 (z : Nat), .slice (some ⟨S1 + 1, 0, none⟩) ks.length ks.length, .bool (num == 1)] 32)).ownsRow w.heap.size 32 3 vv (rowsGo l of k).length (tysC (rowsGo l of k) ks2)) := ⟨owns_same q2 fun g _ hg => (below1 wr _).block g hg⟩
            have HUN : Bx (∀ cs, wr.ownsRow w.heap.size 32 3 vv (rowsGo l of k).length cs → cs = tysC (rowsGo l of k) ks2) := ⟨fun cs hcs => by
              rcases hcs with ⟨a1, ⟨_, a3⟩ | ⟨g, cp, cur, a2, _, a4, _, _, _, a5⟩⟩
              · have b1 := q2.1
                rw [a3] at a1 b1
                rw [List.eq_nil_of_length_eq_zero (by omega : cs.length = 0), List.eq_nil_of_length_eq_zero (by omega : (tysC (rowsGo l of k) ks2).length = 0)]
              · rcases q2.2 with ⟨b2, b3⟩ | ⟨g', cp', cur', b2, _, b4, _, _, _, b5⟩
                · rw [a2] at b2
                  simp at b2
                · rw [a2] at b2
                  simp only [Value.slice.injEq, Option.some.injEq, Addr.mk.injEq, and_true, true_and] at b2
                  obtain ⟨rfl, rfl⟩ := b2
                  rw [a4] at b4
                  simp only [Option.some.injEq, Obj.cells.injEq, and_true] at b4
                  obtain ⟨rfl, _⟩ := b4
                  rw [← a5, ← b5]⟩
            clear HQ HIR HT1 q1 q2 q3 HW1 HPB
            generalize hlr : (rowsGo l of k).length = lr at *
            generalize tysC (rowsGo l of k) ks2 = tc at *
            go_wp2_with (first
              | (at_builtin; refine wpList_append_lies _ rfl (.tmp 43) (.tmp 50) 22 rfl w.heap.size 32 i0 zeroTy 3 40 Tryd.underlying22 hi hz0 hz1 hz2 rfl (by decide) vv lr tc rfl HOW.out ⟨wr.heap.size, 0, none⟩ 1 1 [.int .i64 (z : Nat), .slice (some ⟨S1 + 1, 0, none⟩) ks.length ks.length, .bool (num == 1)] rfl rfl (ty_news _ _ rfl _ _ _) (ty_one _ _ _ _ _) (by decide) (by unfold maxLen; omega) (by omega) (by simp; omega) (wr.heap.size + 1) (by simp) ?_; intro gg cg w8 hown hgrow hat hlt8; have LN := HPU.out gg cg w8 hgrow (fun cs hcs => by rw [HUN.out cs hcs]; exact hown); have LNB : Bx _ := ⟨LN⟩; clear hgrow hat hown LN))
            go_roundw
            case rel => exact ⟨k + 1, _, by omega, by go_num, rfl, LNB⟩
            case measure => simp [intOf]; omega
    · have hke : k = l.length := by omega
      subst hke
      go_wp2
      go_ret
      exact ⟨vv, rfl, HS⟩
end Go.Proofs.YtllgaholkminnaaDoor
