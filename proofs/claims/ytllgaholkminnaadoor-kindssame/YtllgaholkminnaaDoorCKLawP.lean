import Derived.Test.YtllgaholkminnaaDoorCKSame
import Derived.Test.YtllgaholkminnaaDoorCKOwn
namespace Go.Proofs.YtllgaholkminnaaDoor
open Go.RowKit
set_option linter.unusedVariables false
set_option linter.unusedSimpArgs false

/-- three rows, and what Same says of them -/
structure Three (t : List Ty) (a b c : Nat) (ab bc ac : Bool) : Prop where
  ab : ab = true ↔ Bis t a b
  bc : bc = true ↔ Bis t b c
  ac : ac = true ↔ Bis t a c
theorem three_of (t : List Ty) (a b c : Nat) : ∃ ab bc ac, Three t a b c ab bc ac := by
  have dec : ∀ p : Prop, ∃ r : Bool, r = true ↔ p := fun p => by
    rcases Classical.em p with h | h
    · exact ⟨true, by simp [h]⟩
    · exact ⟨false, by simp [h]⟩
  obtain ⟨x, hx⟩ := dec (Bis t a b)
  obtain ⟨y, hy⟩ := dec (Bis t b c)
  obtain ⟨z, hz⟩ := dec (Bis t a c)
  exact ⟨x, y, z, hx, hy, hz⟩
theorem Three.eq {t : List Ty} {a b c : Nat} {bc ac : Bool} (h : Three t a b c true bc ac) : ac = bc := by
  have hab := h.ab.1 rfl
  cases bc with
  | true => exact h.ac.2 (bis_trans hab (h.bc.1 rfl))
  | false =>
    cases ac with
    | false => rfl
    | true => exact absurd (h.bc.2 (bis_trans (bis_symm hab) (h.ac.1 rfl))) (by simp)
/-- a table in which some kids that are a are b -/
def swapTo (a b i : Nat) (ks : List Int) (k : Nat) : List Int := (List.range ks.length).map fun j => if j < k ∧ ks.getD j 0 = (a : Int) ∧ (i + j) % 2 = 0 then (b : Int) else ks.getD j 0
def swapT (t : List Ty) (a b : Nat) (n : Nat) : List Ty := (List.range t.length).map fun i => if i < n then ⟨(tyN t i).kind, swapTo a b i (tyN t i).kids (tyN t i).kids.length, (tyN t i).res⟩ else tyN t i
theorem swapTo_len (a b i : Nat) (ks : List Int) (k : Nat) : (swapTo a b i ks k).length = ks.length := by simp [swapTo]
theorem swapT_len (t : List Ty) (a b n : Nat) : (swapT t a b n).length = t.length := by simp [swapT]
theorem swapT_at {t : List Ty} {a b n i : Nat} (h : i < t.length) : tyN (swapT t a b n) i = if i < n then ⟨(tyN t i).kind, swapTo a b i (tyN t i).kids (tyN t i).kids.length, (tyN t i).res⟩ else tyN t i := by
  simp [swapT, tyN, List.getD_eq_getElem?_getD, h]
theorem swapT_alike {t : List Ty} {a b n i : Nat} : Alike (tyN (swapT t a b n) i) (tyN t i) := by
  by_cases h : i < t.length
  · rw [swapT_at h]
    split
    · exact ⟨rfl, swapTo_len _ _ _ _ _, rfl⟩
    · exact Alike.refl _
  · unfold tyN
    rw [List.getD_eq_getElem?_getD, List.getD_eq_getElem?_getD, List.getElem?_eq_none (by rw [swapT_len]; omega), List.getElem?_eq_none (by omega)]
    exact Alike.refl _
theorem swapT_kid {t : List Ty} {a b n i k : Nat} (hi : i < t.length) (hk : k < (tyN t i).kids.length) : kidN (swapT t a b n) i k = kidN t i k ∨ (kidN t i k = a ∧ kidN (swapT t a b n) i k = b) := by
  unfold kidN
  rw [swapT_at hi]
  split
  · have e : (swapTo a b i (tyN t i).kids (tyN t i).kids.length).getD k 0 = if k < (tyN t i).kids.length ∧ (tyN t i).kids.getD k 0 = (a : Int) ∧ (i + k) % 2 = 0 then (b : Int) else (tyN t i).kids.getD k 0 := by
      simp [swapTo, List.getD_eq_getElem?_getD, hk]
    show ((swapTo a b i (tyN t i).kids (tyN t i).kids.length).getD k 0).toNat = _ ∨ _ ∧ ((swapTo a b i (tyN t i).kids (tyN t i).kids.length).getD k 0).toNat = b
    rw [e]
    split
    · rename_i hc
      right
      rw [hc.2.1]
      exact ⟨rfl, rfl⟩
    · left; rfl
  · left; rfl
/-- SWAPPING CHANGES NOTHING: of rows that are valid -/
theorem swap_bis {t : List Ty} {a b n : Nat} (hv : validI t = true) (ha : a < t.length) (hb : b < t.length) (hab : Bis t a b) {x y : Nat} (hx : x < t.length) (hy : y < t.length) : Bis (swapT t a b n) x y ↔ Bis t x y := by
  have lt : ∀ i k, i < t.length → k < (tyN t i).kids.length → kidN t i k < t.length := fun i k hi hk => by
    obtain ⟨m, _, h2, h3⟩ := valid_kid hv hi hk
    rw [h3]; exact h2
  have lt' : ∀ i k, i < t.length → k < (tyN t i).kids.length → kidN (swapT t a b n) i k < t.length := fun i k hi hk => by
    rcases swapT_kid (a := a) (b := b) (n := n) hi hk with e | ⟨_, e⟩
    · rw [e]; exact lt i k hi hk
    · rw [e]; exact hb
  have kk : ∀ i k, i < t.length → k < (tyN t i).kids.length → Bis t (kidN t i k) (kidN (swapT t a b n) i k) := fun i k hi hk => by
    rcases swapT_kid (a := a) (b := b) (n := n) hi hk with e | ⟨e1, e2⟩
    · rw [e]; exact bis_refl _ _
    · rw [e1, e2]; exact hab
  have one : ∀ x y, x < t.length → y < t.length → Bis t x y → Bis (swapT t a b n) x y := fun x y hx hy h => by
    refine ⟨fun u v => u < t.length ∧ v < t.length ∧ Bis t u v, ?_, hx, hy, h⟩
    rintro u v ⟨hu, hv', huv⟩
    obtain ⟨h1, h2⟩ := bis_is t u v huv
    refine ⟨(swapT_alike.trans h1).trans swapT_alike.symm, fun k hk => ?_⟩
    have hk1 : k < (tyN t u).kids.length := by rw [← (swapT_alike (t := t) (a := a) (b := b) (n := n) (i := u)).len]; exact hk
    have hk2 : k < (tyN t v).kids.length := by rw [← h1.len]; exact hk1
    exact ⟨lt' u k hu hk1, lt' v k hv' hk2, bis_trans (bis_trans (bis_symm (kk u k hu hk1)) (h2 k hk1)) (kk v k hv' hk2)⟩
  refine ⟨fun h => ?_, one x y hx hy⟩
  refine ⟨fun u v => u < t.length ∧ v < t.length ∧ Bis (swapT t a b n) u v, ?_, hx, hy, h⟩
  rintro u v ⟨hu, hv', huv⟩
  obtain ⟨h1, h2⟩ := bis_is _ u v huv
  have hal : Alike (tyN t u) (tyN t v) := (swapT_alike.symm.trans h1).trans swapT_alike
  refine ⟨hal, fun k hk1 => ?_⟩
  have hk2 : k < (tyN t v).kids.length := by rw [← hal.len]; exact hk1
  have hk : k < (tyN (swapT t a b n) u).kids.length := by rw [(swapT_alike (t := t) (a := a) (b := b) (n := n) (i := u)).len]; exact hk1
  have k2 : ∀ i, i < t.length → k < (tyN t i).kids.length → Bis (swapT t a b n) (kidN t i k) (kidN (swapT t a b n) i k) := fun i hi hki => by
    rcases swapT_kid (a := a) (b := b) (n := n) hi hki with e | ⟨e1, e2⟩
    · rw [e]; exact bis_refl _ _
    · rw [e1, e2]; exact one a b ha hb hab
  exact ⟨lt u k hu hk1, lt v k hv' hk2, bis_trans (bis_trans (k2 u hu hk1) (h2 k hk)) (bis_symm (k2 v hv' hk2))⟩
theorem swap_valid {t : List Ty} {a b n : Nat} (hv : validI t = true) (hb : b < t.length) : validI (swapT t a b n) = true := by
  apply valid_true
  intro i hi
  rw [swapT_len] at hi ⊢
  have hr : rowOk t.length (tyN t i) = true := by
    unfold validI at hv
    rw [List.all_eq_true] at hv
    exact hv _ (by unfold tyN; rw [List.getD_eq_getElem?_getD, List.getElem?_eq_getElem hi]; exact List.getElem_mem hi)
  rw [swapT_at hi]
  split
  · unfold rowOk at hr ⊢
    rw [Bool.and_eq_true, List.all_eq_true] at hr ⊢
    refine ⟨?_, fun x hx => ?_⟩
    · have := hr.1
      unfold fitsI at this ⊢
      simp only [swapTo_len]
      exact this
    · unfold swapTo at hx
      rw [List.mem_map] at hx
      obtain ⟨j, hj, rfl⟩ := hx
      rw [List.mem_range] at hj
      split
      · unfold isRowI; simp; omega
      · apply hr.2
        rw [List.getD_eq_getElem?_getD, List.getElem?_eq_getElem hj]
        exact List.getElem_mem hj
  · exact hr
end Go.Proofs.YtllgaholkminnaaDoor
namespace Go.Proofs.YtllgaholkminnaaDoor
open Go.RowKit
set_option linter.unusedVariables false
set_option linter.unusedSimpArgs false

/-- rows of one's own: a block for the rows, and one for the kids of each -/
structure OwT (W : World) (H m : Nat) (t : List Ty) (gs : Nat → Nat) (k : Nat) : Prop where
  ex : ∃ C : Array Value, W.heap[H]? = some (.cells C 32 (0, 0)) ∧ C.size = (t.length + 1) * 3 ∧ (∀ j, j < t.length → C[j * 3]? = some (.int .i64 (tyN t j).kind) ∧ C[j * 3 + 2]? = some (.bool (tyN t j).res)) ∧ ∀ j, j < k → C[j * 3 + 1]? = some (.slice (some ⟨gs j, 0, none⟩) (tyN t j).kids.length ((tyN t j).kids.length + 1))
  kd : ∀ j, j < k → W.heap[gs j]? = some (.cells (copC (tyN t j).kids) 3 (0, 0))
  lo : ∀ j, j < k → H < gs j
  mo : ∀ i j, i < j → j < k → gs i < gs j
theorem OwT.ext {W W' : World} {H m k : Nat} {t : List Ty} {gs : Nat → Nat} (h : OwT W H m t gs k) (hb : Below W.heap.size W W') : OwT W' H m t gs k := by
  obtain ⟨C, c1, c2⟩ := h.ex
  exact ⟨⟨C, by rw [hb.block _ (Array.getElem?_eq_some_iff.1 c1).1]; exact c1, c2⟩, fun j hj => by rw [hb.block _ (Array.getElem?_eq_some_iff.1 (h.kd j hj)).1]; exact h.kd j hj, h.lo, h.mo⟩
theorem owt_start {w W' : World} {t : List Ty} (h : OwS w W' 0 t) : OwT W' w.heap.size 0 t (fun _ => 0) 0 := by
  obtain ⟨C, c1, c2, c3, _⟩ := h.ex
  exact ⟨⟨C, c1, c2, c3, fun j hj => absurd hj (by omega)⟩, fun j hj => absurd hj (by omega), fun j hj => absurd hj (by omega), fun i j _ hj => absurd hj (by omega)⟩
def addG (gs : Nat → Nat) (k g : Nat) : Nat → Nat := fun j => if j = k then g else gs j
theorem OwT.put {wr w5 : World} {H m k : Nat} {t : List Ty} {gs : Nat → Nat} (h : OwT wr H m t gs k) (hk : k < t.length) (hb : Below wr.heap.size wr w5) (hc : w5.heap[wr.heap.size]? = some (.cells (copC (tyN t k).kids) 3 (0, 0))) : OwT (w5.setCell ⟨H, k * 3 + 1, none⟩ (.slice (some ⟨wr.heap.size, 0, none⟩) (tyN t k).kids.length ((tyN t k).kids.length + 1))) H m t (addG gs k wr.heap.size) (k + 1) := by
  obtain ⟨C, c1, c2, c3, c4⟩ := h.ex
  have hlt : H < wr.heap.size := (Array.getElem?_eq_some_iff.1 c1).1
  have c1' : w5.heap[H]? = some (.cells C 32 (0, 0)) := by rw [hb.block _ hlt]; exact c1
  have gl : ∀ j, j < k → gs j < wr.heap.size := fun j hj => (Array.getElem?_eq_some_iff.1 (h.kd j hj)).1
  refine ⟨⟨_, heap_setCell_same w5 H (k * 3 + 1) _ _ _ c1', by simpa using c2, fun j hj => ?_, fun j hj => ?_⟩, fun j hj => ?_, fun j hj => ?_, fun i j hij hj => ?_⟩
  · rw [Array.getElem?_setIfInBounds, Array.getElem?_setIfInBounds, if_neg (by omega), if_neg (by omega)]
    exact c3 j hj
  · unfold addG
    by_cases e : j = k
    · subst e
      rw [Array.getElem?_setIfInBounds, if_pos rfl, if_pos (by omega), if_pos rfl]
    · rw [Array.getElem?_setIfInBounds, if_neg (by omega), if_neg e]
      exact c4 j (by omega)
  · unfold addG
    by_cases e : j = k
    · subst e
      rw [if_pos rfl, heap_setCell_other _ _ wr.heap.size _ (by show wr.heap.size ≠ H; omega)]
      exact hc
    · rw [if_neg e]
      have := h.lo j (by omega)
      rw [heap_setCell_other _ _ (gs j) _ (by show gs j ≠ H; omega), hb.block _ (gl j (by omega))]
      exact h.kd j (by omega)
  · unfold addG
    by_cases e : j = k
    · rw [if_pos e]; exact hlt
    · rw [if_neg e]; exact h.lo j (by omega)
  · unfold addG
    rw [if_neg (by omega : i ≠ k)]
    by_cases e : j = k
    · rw [if_pos e]; exact gl i (by omega)
    · rw [if_neg e]; exact h.mo i j hij (by omega)
theorem OwT.last {W : World} {H m : Nat} {t : List Ty} {gs : Nat → Nat} (h : OwT W H m t gs t.length) (v : Value) : OwT (W.setCell ⟨H, t.length * 3, none⟩ v) H m t gs t.length := by
  obtain ⟨C, c1, c2, c3, c4⟩ := h.ex
  refine ⟨⟨_, heap_setCell_same W H (t.length * 3) _ _ _ c1, by simpa using c2, fun j hj => ?_, fun j hj => ?_⟩, fun j hj => ?_, h.lo, h.mo⟩
  · rw [Array.getElem?_setIfInBounds, Array.getElem?_setIfInBounds, if_neg (by omega), if_neg (by omega)]
    exact c3 j hj
  · rw [Array.getElem?_setIfInBounds, if_neg (by omega)]
    exact c4 j hj
  · have := h.lo j hj
    rw [heap_setCell_other _ _ (gs j) _ (by show gs j ≠ H; omega)]
    exact h.kd j hj
theorem OwT.types {W : World} {H m : Nat} {t : List Ty} {gs : Nat → Nat} (h : OwT W H m t gs t.length) (hwf : ∀ j, j < t.length → TyWf (tyN t j)) (hm : ∀ j, j < t.length → (tyN t j).kids.length ≤ maxLen) (hl : t.length ≤ maxLen) : Types W W.heap.size H 0 (t.length + 1) t := by
  obtain ⟨C, c1, c2, c3, c4⟩ := h.ex
  have hcell : ∀ i, W.cell? ⟨H, i, none⟩ = C[i]? := fun i => cell_of_row _ H i _ _ (0, 0) c1
  refine ⟨fun j hj => ?_, hwf, (Array.getElem?_eq_some_iff.1 c1).1, Nat.le_refl _, hl, by omega⟩
  obtain ⟨d1, d2⟩ := c3 j hj
  have g2 := h.kd j hj
  refine ⟨some ⟨gs j, 0, none⟩, (tyN t j).kids.length + 1, ?_, ?_, ?_, ⟨_, _, rfl, by omega, hm j hj, fun _ => ⟨gs j, 0, rfl, (Array.getElem?_eq_some_iff.1 g2).1, fun i hi => ?_⟩⟩⟩
  · rw [Nat.zero_add, hcell]; exact d1
  · rw [Nat.zero_add, hcell]; exact c4 j hj
  · rw [Nat.zero_add, hcell]; exact d2
  · rw [Nat.zero_add, cell_of_row _ (gs j) i _ _ (0, 0) g2]
    simp [copC, List.getElem?_append, hi]
/-- a kid is written over -/
theorem OwT.poke {W : World} {H m : Nat} {t t' : List Ty} {gs : Nat → Nat} (h : OwT W H m t gs t.length) (i k : Nat) (x : Int) (hi : i < t.length) (hk : k < (tyN t i).kids.length) (hl : t'.length = t.length)
    (ho : ∀ j, j < t.length → j ≠ i → tyN t' j = tyN t j) (hs : tyN t' i = ⟨(tyN t i).kind, (tyN t i).kids.set k x, (tyN t i).res⟩) : OwT (W.setCell ⟨gs i, k, none⟩ (.int .i64 x)) H m t' gs t'.length := by
  obtain ⟨C, c1, c2, c3, c4⟩ := h.ex
  have hH := h.lo i hi
  have same : ∀ j, j < t.length → (tyN t' j).kind = (tyN t j).kind ∧ (tyN t' j).res = (tyN t j).res ∧ (tyN t' j).kids.length = (tyN t j).kids.length := fun j hj => by
    by_cases e : j = i
    · subst e; rw [hs]; simp
    · rw [ho j hj e]; exact ⟨rfl, rfl, rfl⟩
  refine ⟨⟨C, by rw [heap_setCell_other _ _ H _ (by show H ≠ gs i; omega)]; exact c1, by rw [hl]; exact c2, fun j hj => ?_, fun j hj => ?_⟩, fun j hj => ?_, fun j hj => h.lo j (by omega), fun a b hab hb => h.mo a b hab (by omega)⟩
  · rw [(same j (by omega)).1, (same j (by omega)).2.1]
    exact c3 j (by omega)
  · rw [(same j (by omega)).2.2]
    exact c4 j (by omega)
  · by_cases e : j = i
    · subst e
      rw [heap_setCell_same W (gs j) k _ _ _ (h.kd j hi), hs]
      congr 2
      unfold copC
      rw [List.setIfInBounds_toArray, List.set_append_left _ _ (by simpa using hk), List.map_set]
    · have hne : gs j ≠ gs i := by
        rcases Nat.lt_or_gt_of_ne e with q | q
        · have := h.mo j i q hi; omega
        · have := h.mo i j q (by omega); omega
      rw [heap_setCell_other _ _ (gs j) _ hne, ho j (by omega) e]
      exact h.kd j (by omega)
set_option maxRecDepth 100000 in
set_option maxHeartbeats 4000000 in
/-- **ownRows**, with where its rows lie -/
theorem ownRows_own (w : World) (B nb no nc : Nat) (t : List Ty) (hn : Types w B nb no nc t) (hld : load t id ≤ 2147483647) :
    Calls Tryd.prog 11 #[.slice (some ⟨nb, no, none⟩) t.length nc] w fun e w' => e = .returned (.slice (some ⟨w.heap.size, 0, none⟩) t.length (t.length + 1)) ∧ ∃ gs, OwT w' w.heap.size 0 t gs t.length ∧ Below w.heap.size w w' := by
  have hlen := load_len t
  have hmk := make_types w (t.length + 1) (by omega)
  simp only [Int.natCast_add, Int.cast_ofNat_Int] at hmk
  obtain ⟨W', hr, hs⟩ := ows_start hn 3
  have hrr : ∀ ty, (Builtin.copy_ #[22, 22] ty #[.slice (some ⟨w.heap.size, 0, none⟩) (t.length + 1) (t.length + 1), .slice (some ⟨nb, no, none⟩) t.length nc]).run Tryd.prog (w.alloc (.cells (zerosT (t.length + 1)) 32)) = .ok (.int .i64 (t.length : Nat)) W' := fun ty => hr
  have HS0 : Bx (OwT W' w.heap.size 0 t (fun _ => 0) 0 ∧ Below w.heap.size w W') := ⟨owt_start hs, hs.bel⟩
  have HN : Bx _ := ⟨hn⟩
  have hB := hn.hi
  have hnb := hn.lo
  have HLD : Bx _ := ⟨hld⟩
  have hl31 : t.length ≤ 2147483647 := by omega
  clear hn hr hs hld hlen
  go_enter Tryd.func11, Tryd.ntmps11
  go_wp2
  go_loopw [4] (fun x wr => ∃ (k : Nat) (gs : Nat → Nat), k ≤ t.length ∧ x = .int .i64 k ∧ Bx (OwT wr w.heap.size 0 t gs k ∧ Below w.heap.size w wr)) (fun x _ => t.length - (intOf x).toNat)
  case atStart => exact ⟨0, _, Nat.zero_le _, rfl, HS0⟩
  case round =>
    obtain ⟨k, gs, hk, rfl, HS⟩ := hrel
    clear HS0 hrr hmk
    obtain ⟨C, c1, c2, c3, c4⟩ := HS.out.1.ex
    have hlt0 : w.heap.size < wr.heap.size := (Array.getElem?_eq_some_iff.1 c1).1
    by_cases hlt : k < t.length
    · have hsz := HS.out.2.size
      obtain ⟨ka, kc, hX⟩ := (HN.out.below (HS.out.2.mono hB)).at_ k hlt
      have x1 := hX.c1
      have HC : Bx _ := ⟨copied_any wr B ka kc (tyN t k).kids hX.kids (by omega) (kids_few HLD.out hlt)⟩
      have hkf := kids_few HLD.out hlt
      obtain ⟨v0, hv0⟩ : ∃ v, C[k * 3 + 1]? = some v := ⟨C[k * 3 + 1]'(by omega), Array.getElem?_eq_getElem (by omega)⟩
      have HX : Bx (∀ w5, Below wr.heap.size wr w5 → w5.heap[wr.heap.size]? = some (.cells (copC (tyN t k).kids) 3 (0, 0)) → (OwT (w5.setCell ⟨w.heap.size, k * 3 + 1, none⟩ (.slice (some ⟨wr.heap.size, 0, none⟩) (tyN t k).kids.length ((tyN t k).kids.length + 1))) w.heap.size 0 t (addG gs k wr.heap.size) (k + 1) ∧ Below w.heap.size w (w5.setCell ⟨w.heap.size, k * 3 + 1, none⟩ (.slice (some ⟨wr.heap.size, 0, none⟩) (tyN t k).kids.length ((tyN t k).kids.length + 1)))) ∧ w5.cell? ⟨w.heap.size, k * 3 + 1, none⟩ = some v0 ∧ w5.frozen? ⟨w.heap.size, k * 3 + 1, none⟩ = false ∧ w.heap.size < w5.heap.size) := ⟨fun w5 hb hc => by
        have c1' : w5.heap[w.heap.size]? = some (.cells C 32 (0, 0)) := by rw [hb.block _ hlt0]; exact c1
        exact ⟨⟨HS.out.1.put hlt hb hc, Below.setCell (p := ⟨w.heap.size, k * 3 + 1, none⟩) (HS.out.2.trans (hb.mono hsz)) (Nat.le_refl _) _⟩, (cell_of_row w5 _ _ _ _ (0, 0) c1').trans hv0, by simp [World.frozen?, c1'], (Array.getElem?_eq_some_iff.1 c1').1⟩⟩
      clear c1 c2 c3 c4 hX HS hv0
      generalize (tyN t k).kids.length = lk at *
      go_wp2_with (first | (go_at_call 19; refine Calls.mono HC.out ?_; rintro e w5 ⟨rfl, hc5, hb5⟩; obtain ⟨q1, q2, q3, q4⟩ := HX.out _ hb5 hc5; have Q1 : Bx _ := ⟨q1⟩; clear q1 hb5 hc5))
      go_roundw
      case rel => exact ⟨k + 1, _, by omega, by go_num, Q1⟩
      case measure => simp [intOf]; omega
    · have hke : k = t.length := by omega
      subst hke
      have HT : Bx (OwT (wr.setCell ⟨w.heap.size, t.length * 3, none⟩ (.int .i64 (-99))) w.heap.size 0 t gs t.length ∧ Below w.heap.size w (wr.setCell ⟨w.heap.size, t.length * 3, none⟩ (.int .i64 (-99)))) := ⟨HS.out.1.last _, Below.setCell (p := ⟨w.heap.size, t.length * 3, none⟩) HS.out.2 (Nat.le_refl _) _⟩
      obtain ⟨v0, hv0⟩ : ∃ v, C[t.length * 3]? = some v := ⟨C[t.length * 3]'(by omega), Array.getElem?_eq_getElem (by omega)⟩
      have q2 : wr.cell? ⟨w.heap.size, t.length * 3, none⟩ = some v0 := (cell_of_row wr _ _ _ _ (0, 0) c1).trans hv0
      have q3 : wr.frozen? ⟨w.heap.size, t.length * 3, none⟩ = false := by simp [World.frozen?, c1]
      clear c1 c2 c3 c4 HS hv0
      go_wp2
      go_ret
      exact ⟨rfl, gs, HT.out.1, HT.out.2⟩
end Go.Proofs.YtllgaholkminnaaDoor
namespace Go.Proofs.YtllgaholkminnaaDoor
open Go.RowKit
set_option linter.unusedVariables false
set_option linter.unusedSimpArgs false

theorem swap_load (t : List Ty) (a b n : Nat) : load (swapT t a b n) id = load t id := by
  unfold load
  rw [swapT_len]
  refine sumTo_congr _ fun i _ => ?_
  unfold loadF
  rw [(swapT_alike (t := t) (a := a) (b := b) (n := n) (i := i)).len]
/-- a row in the midst of it -/
def midT (t : List Ty) (a b i k : Nat) : List Ty := (List.range t.length).map fun j => if j < i then ⟨(tyN t j).kind, swapTo a b j (tyN t j).kids (tyN t j).kids.length, (tyN t j).res⟩ else if j = i then ⟨(tyN t j).kind, swapTo a b j (tyN t j).kids k, (tyN t j).res⟩ else tyN t j
theorem midT_len (t : List Ty) (a b i k : Nat) : (midT t a b i k).length = t.length := by simp [midT]
theorem midT_at {t : List Ty} {a b i k j : Nat} (h : j < t.length) : tyN (midT t a b i k) j = if j < i then ⟨(tyN t j).kind, swapTo a b j (tyN t j).kids (tyN t j).kids.length, (tyN t j).res⟩ else if j = i then ⟨(tyN t j).kind, swapTo a b j (tyN t j).kids k, (tyN t j).res⟩ else tyN t j := by
  simp [midT, tyN, List.getD_eq_getElem?_getD, h]
theorem ty_ext {t u : List Ty} (hl : t.length = u.length) (h : ∀ j, j < t.length → tyN t j = tyN u j) : t = u := by
  apply List.ext_getElem hl
  intro j h1 h2
  have := h j h1
  unfold tyN at this
  rw [List.getD_eq_getElem?_getD, List.getD_eq_getElem?_getD, List.getElem?_eq_getElem h1, List.getElem?_eq_getElem h2] at this
  exact this
theorem swapTo_zero (a b i : Nat) (ks : List Int) : swapTo a b i ks 0 = ks := by
  apply List.ext_getElem (swapTo_len _ _ _ _ _)
  intro j h1 h2
  simp [swapTo, h2]
theorem swapT_zero (t : List Ty) (a b : Nat) : swapT t a b 0 = t := ty_ext (swapT_len _ _ _ _) fun j hj => by rw [swapT_len] at hj; rw [swapT_at hj, if_neg (by omega)]
theorem mid_zero (t : List Ty) (a b i : Nat) : midT t a b i 0 = swapT t a b i := ty_ext (by rw [midT_len, swapT_len]) fun j hj => by
  rw [midT_len] at hj
  rw [midT_at hj, swapT_at hj]
  split
  · rfl
  · split
    · rw [swapTo_zero]
    · rfl
theorem mid_end (t : List Ty) (a b i : Nat) : midT t a b i (tyN t i).kids.length = swapT t a b (i + 1) := ty_ext (by rw [midT_len, swapT_len]) fun j hj => by
  rw [midT_len] at hj
  rw [midT_at hj, swapT_at hj]
  by_cases h1 : j < i
  · rw [if_pos h1, if_pos (by omega)]
  · rw [if_neg h1]
    by_cases h2 : j = i
    · subst h2; rw [if_pos rfl, if_pos (by omega)]
    · rw [if_neg h2, if_neg (by omega)]
theorem swapTo_at {a b i : Nat} {ks : List Int} {k : Nat} (hk : k < ks.length) : (swapTo a b i ks k)[k]? = some ks[k] := by
  simp [swapTo, hk]
theorem swapTo_keep {a b i : Nat} {ks : List Int} {k : Nat} (hk : k < ks.length) (h : ¬ (ks[k] = (a : Int) ∧ (i + k) % 2 = 0)) : swapTo a b i ks (k + 1) = swapTo a b i ks k := by
  unfold swapTo
  apply List.map_congr_left
  intro j hj
  rw [List.mem_range] at hj
  by_cases e : j = k
  · subst e
    have e2 : ks.getD j 0 = ks[j] := by rw [List.getD_eq_getElem?_getD, List.getElem?_eq_getElem hj]; rfl
    rw [e2, if_neg (by intro q; exact h q.2), if_neg (by omega)]
  · by_cases q : j < k
    · simp [q, Nat.lt_succ_of_lt q]
    · rw [if_neg (by omega), if_neg (by omega)]
theorem swapTo_set {a b i : Nat} {ks : List Int} {k : Nat} (hk : k < ks.length) (h : ks[k] = (a : Int) ∧ (i + k) % 2 = 0) : swapTo a b i ks (k + 1) = (swapTo a b i ks k).set k (b : Int) := by
  apply List.ext_getElem (by rw [List.length_set, swapTo_len, swapTo_len])
  intro j h1 h2
  have hj : j < ks.length := by rw [swapTo_len] at h1; exact h1
  rw [List.getElem_set]
  simp only [swapTo, List.getElem_map, List.getElem_range]
  have e2 : ks.getD j 0 = ks[j] := by rw [List.getD_eq_getElem?_getD, List.getElem?_eq_getElem hj]; rfl
  by_cases e : k = j
  · subst e
    rw [if_pos rfl, e2, if_pos ⟨by omega, h⟩]
  · rw [if_neg e]
    by_cases q : j < k
    · simp [q, Nat.lt_succ_of_lt q]
    · rw [if_neg (by omega), if_neg (by omega)]
theorem mid_keep {t : List Ty} {a b i k : Nat} (hi : i < t.length) (hk : k < (tyN t i).kids.length) (h : ¬ ((tyN t i).kids[k] = (a : Int) ∧ (i + k) % 2 = 0)) : midT t a b i (k + 1) = midT t a b i k := ty_ext (by rw [midT_len, midT_len]) fun j hj => by
  rw [midT_len] at hj
  rw [midT_at hj, midT_at hj]
  by_cases h1 : j < i
  · rw [if_pos h1, if_pos h1]
  · rw [if_neg h1, if_neg h1]
    by_cases h2 : j = i
    · subst h2; rw [if_pos rfl, if_pos rfl, swapTo_keep hk h]
    · rw [if_neg h2, if_neg h2]
theorem mid_kids {t : List Ty} {a b i k : Nat} (hi : i < t.length) : tyN (midT t a b i k) i = ⟨(tyN t i).kind, swapTo a b i (tyN t i).kids k, (tyN t i).res⟩ := by
  rw [midT_at hi, if_neg (by omega), if_pos rfl]
theorem OwT.swap {W : World} {H : Nat} {t : List Ty} {a b i k : Nat} {gs : Nat → Nat} (h : OwT W H 0 (midT t a b i k) gs (midT t a b i k).length) (hi : i < t.length) (hk : k < (tyN t i).kids.length) (hc : (tyN t i).kids[k] = (a : Int) ∧ (i + k) % 2 = 0) : OwT (W.setCell ⟨gs i, k, none⟩ (.int .i64 (b : Nat))) H 0 (midT t a b i (k + 1)) gs (midT t a b i (k + 1)).length := by
  refine h.poke i k (b : Int) (by rw [midT_len]; exact hi) (by rw [mid_kids hi]; show k < (swapTo _ _ _ _ _).length; rw [swapTo_len]; exact hk) (by rw [midT_len, midT_len]) (fun j hj hne => ?_) ?_
  · rw [midT_len] at hj
    rw [midT_at hj, midT_at hj]
    by_cases h1 : j < i
    · rw [if_pos h1, if_pos h1]
    · rw [if_neg h1, if_neg h1, if_neg hne, if_neg hne]
  · rw [mid_kids hi, mid_kids hi, swapTo_set hk hc]
theorem OwT.at_ {W : World} {H : Nat} {t : List Ty} {gs : Nat → Nat} (h : OwT W H 0 t gs t.length) {i : Nat} (hi : i < t.length) : W.cell? ⟨H, i * 3 + 1, none⟩ = some (.slice (some ⟨gs i, 0, none⟩) (tyN t i).kids.length ((tyN t i).kids.length + 1)) ∧ H < W.heap.size ∧ gs i < W.heap.size ∧ (∀ k, W.frozen? ⟨gs i, k, none⟩ = false) ∧ ∀ k x, (tyN t i).kids[k]? = some x → W.cell? ⟨gs i, k, none⟩ = some (.int .i64 x) := by
  obtain ⟨C, c1, c2, c3, c4⟩ := h.ex
  have g := h.kd i hi
  refine ⟨(cell_of_row _ H _ _ _ (0, 0) c1).trans (c4 i hi), (Array.getElem?_eq_some_iff.1 c1).1, (Array.getElem?_eq_some_iff.1 g).1, fun k => by simp [World.frozen?, g], fun k x hx => ?_⟩
  rw [cell_of_row _ (gs i) k _ _ (0, 0) g]
  have hk : k < (tyN t i).kids.length := (List.getElem?_eq_some_iff.1 hx).1
  unfold copC
  simp only [List.getElem?_toArray]
  rw [List.getElem?_append_left (by simpa using hk), List.getElem?_map, hx]
  rfl
theorem swap_wf {t : List Ty} {a b n : Nat} (hwf : ∀ j, j < t.length → TyWf (tyN t j)) (hb : b < t.length) (hl : t.length ≤ 300) : ∀ j, j < (swapT t a b n).length → TyWf (tyN (swapT t a b n) j) := fun j hj => by
  rw [swapT_len] at hj
  rw [swapT_at hj]
  split
  · refine ⟨(hwf j hj).kind, fun k hk => ?_⟩
    unfold swapTo at hk
    rw [List.mem_map] at hk
    obtain ⟨x, hx, rfl⟩ := hk
    rw [List.mem_range] at hx
    split
    · unfold I64; omega
    · apply (hwf j hj).kids
      rw [List.getD_eq_getElem?_getD, List.getElem?_eq_getElem hx]
      exact List.getElem_mem hx
  · exact hwf j hj
end Go.Proofs.YtllgaholkminnaaDoor
