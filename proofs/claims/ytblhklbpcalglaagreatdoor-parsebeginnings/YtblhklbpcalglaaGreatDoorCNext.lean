import Derived.Test.YtblhklbpcalglaaGreatDoorCSignP
import Derived.Deep.AppendLies
namespace Go.Proofs.YtblhklbpcalglaaGreatDoor
open Go.RowKit
set_option linter.unusedVariables false
set_option linter.unusedSimpArgs false
structure Laid (w : World) : Prop where
  words : TabAt w 1 wordsT
  signs : TabAt w 0 signsT
  range : ∃ te pe, w.cell? ⟨3, 0, none⟩ = some (.iface te pe)
  size : 3 < w.heap.size
theorem Laid.below {w w' : World} (h : Laid w) (hb : Below w.heap.size w w') : Laid w' := by
  have h3 := h.size
  refine ⟨h.words.below (by omega) hb, h.signs.below (by omega) hb, ?_, by have := hb.size; omega⟩
  obtain ⟨te, pe, hc⟩ := h.range
  exact ⟨te, pe, by rw [hb.cell (by exact h3)]; exact hc⟩
def nextR (xs : List UInt8) (k : Nat) : Tok × Nat :=
  if wsI ((xs.getD k 0).toNat : Int) = true then wordR xs k else if digI ((xs.getD k 0).toNat : Int) = true then numR xs k else signR xs k
def z4 : Obj := .cells #[.int .i64 0, .int .i64 0, .int .i64 0, .int .i64 0] 34
set_option maxHeartbeats 400000 in
theorem next_word (b o cap : Nat) (n k : Nat) (w : World) (c : Int) (t : Tok) (e0 : Int) (hc : w.cell? ⟨b, o + k, none⟩ = some (.int .u8 c)) (hb : b < w.heap.size) (hl : n ≤ 65536) (hk : k < n) (hw : wsI c = true)
    (HC : Box (∀ o', Calls Tryz.prog 19 #[.slice (some ⟨b, o, none⟩) n cap, .int .i64 k] (w.alloc o') fun e w' => e = .returned (.tuple #[tokV t, .int .i64 e0]) ∧ Below (w.alloc o').heap.size (w.alloc o') w')) :
    Calls Tryz.prog 11 #[.slice (some ⟨b, o, none⟩) n cap, .int .i64 k] w fun e w' => e = .returned (.tuple #[tokV t, .int .i64 e0]) ∧ Below w.heap.size w w' := by
  go_enter Tryz.func11, Tryz.ntmps11
  go_wp2_with (first | (go_at_call 18; refine (isWordStart_any _ _).mono ?_; rintro e w' ⟨rfl, rfl⟩) | (go_at_call 19; refine Calls.mono (HC.out _) ?_; rintro e w1 ⟨rfl, hb1⟩; obtain ⟨hcc, hff⟩ := bcell hb1; have hsz : w.heap.size < w1.heap.size := (by have := hb1.size; simp at this; omega); unfold tokV))
  refine bodyPost_ret (v := .tuple #[tokV t, .int .i64 e0]) (by simp [results, Tryz.results11, go_sem, tokV, hcc, hsz]) rfl ⟨rfl, ?_⟩
  exact ((((((Below.refl _ _).alloc (Nat.le_refl _) _).trans (hb1.mono (by simp))).setCell (Nat.le_refl _) _).setCell (Nat.le_refl _) _).setCell (Nat.le_refl _) _).setCell (Nat.le_refl _) _
set_option maxHeartbeats 400000 in
theorem next_num (b o cap : Nat) (n k : Nat) (w : World) (c : Int) (t : Tok) (e0 : Int) (hc : w.cell? ⟨b, o + k, none⟩ = some (.int .u8 c)) (hb : b < w.heap.size) (hl : n ≤ 65536) (hk : k < n) (hw : wsI c = false) (hd : digI c = true)
    (HC : Box (∀ o', Calls Tryz.prog 21 #[.slice (some ⟨b, o, none⟩) n cap, .int .i64 k] (w.alloc o') fun e w' => e = .returned (.tuple #[tokV t, .int .i64 e0]) ∧ Below (w.alloc o').heap.size (w.alloc o') w')) :
    Calls Tryz.prog 11 #[.slice (some ⟨b, o, none⟩) n cap, .int .i64 k] w fun e w' => e = .returned (.tuple #[tokV t, .int .i64 e0]) ∧ Below w.heap.size w w' := by
  go_enter Tryz.func11, Tryz.ntmps11
  go_wp2_with (first | (go_at_call 20; refine (isDigit_any _ _).mono ?_; rintro e w' ⟨rfl, rfl⟩) | (go_at_call 18; refine (isWordStart_any _ _).mono ?_; rintro e w' ⟨rfl, rfl⟩) | (go_at_call 21; refine Calls.mono (HC.out _) ?_; rintro e w1 ⟨rfl, hb1⟩; obtain ⟨hcc, hff⟩ := bcell hb1; have hsz : w.heap.size < w1.heap.size := (by have := hb1.size; simp at this; omega); unfold tokV))
  refine bodyPost_ret (v := .tuple #[tokV t, .int .i64 e0]) (by simp [results, Tryz.results11, go_sem, tokV, hcc, hsz]) rfl ⟨rfl, ?_⟩
  exact ((((((Below.refl _ _).alloc (Nat.le_refl _) _).trans (hb1.mono (by simp))).setCell (Nat.le_refl _) _).setCell (Nat.le_refl _) _).setCell (Nat.le_refl _) _).setCell (Nat.le_refl _) _
set_option maxHeartbeats 400000 in
theorem next_sign (b o cap : Nat) (n k : Nat) (w : World) (c : Int) (t : Tok) (e0 : Int) (hc : w.cell? ⟨b, o + k, none⟩ = some (.int .u8 c)) (hb : b < w.heap.size) (hl : n ≤ 65536) (hk : k < n) (hw : wsI c = false) (hd : digI c = false)
    (HC : Box (∀ o', Calls Tryz.prog 22 #[.slice (some ⟨b, o, none⟩) n cap, .int .i64 k] (w.alloc o') fun e w' => e = .returned (.tuple #[tokV t, .int .i64 e0]) ∧ Below (w.alloc o').heap.size (w.alloc o') w')) :
    Calls Tryz.prog 11 #[.slice (some ⟨b, o, none⟩) n cap, .int .i64 k] w fun e w' => e = .returned (.tuple #[tokV t, .int .i64 e0]) ∧ Below w.heap.size w w' := by
  go_enter Tryz.func11, Tryz.ntmps11
  go_wp2_with (first | (go_at_call 20; refine (isDigit_any _ _).mono ?_; rintro e w' ⟨rfl, rfl⟩) | (go_at_call 18; refine (isWordStart_any _ _).mono ?_; rintro e w' ⟨rfl, rfl⟩) | (go_at_call 22; refine Calls.mono (HC.out _) ?_; rintro e w1 ⟨rfl, hb1⟩; obtain ⟨hcc, hff⟩ := bcell hb1; have hsz : w.heap.size < w1.heap.size := (by have := hb1.size; simp at this; omega); unfold tokV))
  refine bodyPost_ret (v := .tuple #[tokV t, .int .i64 e0]) (by simp [results, Tryz.results11, go_sem, tokV, hcc, hsz]) rfl ⟨rfl, ?_⟩
  exact ((((((Below.refl _ _).alloc (Nat.le_refl _) _).trans (hb1.mono (by simp))).setCell (Nat.le_refl _) _).setCell (Nat.le_refl _) _).setCell (Nat.le_refl _) _).setCell (Nat.le_refl _) _
theorem next_any (b o cap : Nat) (xs : List UInt8) (k : Nat) (w : World) (hs : Src w b o xs) (hb : b < w.heap.size) (hl : xs.length ≤ 65536) (hcap : xs.length ≤ cap) (hk : k < xs.length) (hL : Laid w) :
    Calls Tryz.prog 11 #[.slice (some ⟨b, o, none⟩) xs.length cap, .int .i64 k] w fun e w' => e = .returned (.tuple #[tokV (nextR xs k).1, .int .i64 (nextR xs k).2]) ∧ Below w.heap.size w w' := by
  have hml : xs.length ≤ maxLen := by unfold maxLen; omega
  have hbl : ∀ o', Below w.heap.size w (w.alloc o') := fun o' => (Below.refl _ _).alloc (Nat.le_refl _) _
  have hc : w.cell? ⟨b, o + k, none⟩ = some (.int .u8 ((xs.getD k 0).toNat : Int)) := by
    rw [hs k hk]; simp [List.getD, hk]
  have hg : xs.getD k 0 = xs[k] := by simp [List.getD, hk]
  have hR : nextR xs k = if wsI ((xs.getD k 0).toNat : Int) = true then wordR xs k else if digI ((xs.getD k 0).toNat : Int) = true then numR xs k else signR xs k := rfl
  have hb' : ∀ o', b < (w.alloc o').heap.size := fun o' => by have := (hbl o').size; omega
  cases hw : wsI ((xs.getD k 0).toNat : Int)
  · rw [if_neg (by rw [hw]; simp)] at hR
    cases hd : digI ((xs.getD k 0).toNat : Int)
    · rw [if_neg (by rw [hd]; simp)] at hR
      rw [hR]
      refine next_sign b o cap xs.length k w _ _ _ hc hb hl hk hw hd ⟨fun o' => ?_⟩
      have hL' := hL.below (hbl o')
      have := hL'.size
      exact sign_loop b o cap xs k _ (hs.below hb (hbl o')) (hb' o') hml hcap hk hL'.signs (by omega)
    · rw [if_pos hd] at hR
      rw [hR]
      refine next_num b o cap xs.length k w _ _ _ hc hb hl hk hw hd ⟨fun o' => ?_⟩
      have hL' := hL.below (hbl o')
      obtain ⟨te, pe, h3⟩ := hL'.range
      refine number_any b o cap xs k _ (hs.below hb (hbl o')) (hb' o') hl hcap ?_ te pe hL'.size h3
      rw [spanTo_yes _ _ _ hk (by rw [← hg]; exact hd)]
      have := (spanTo_le digI xs (k + 1) (by omega)).1
      omega
  · rw [if_pos hw] at hR
    rw [hR]
    refine next_word b o cap xs.length k w _ _ _ hc hb hl hk hw ⟨fun o' => ?_⟩
    have hL' := hL.below (hbl o')
    have := hL'.size
    refine word_any b o cap xs k _ (hs.below hb (hbl o')) (hb' o') hml hcap ?_ hL'.words (by omega)
    rw [spanTo_yes _ _ _ hk (by rw [← hg]; unfold wbI; rw [hw]; rfl)]
    have := (spanTo_le wbI xs (k + 1) (by omega)).1
    omega
theorem prefix_len (s l : List UInt8) (h : s.isPrefixOf l = true) : s.length ≤ l.length := (List.isPrefixOf_iff_prefix.1 h).length_le
theorem bestFrom_le (l : List UInt8) : ∀ (T : List (List UInt8)) (n : Nat) (acc : Nat × Nat), acc.2 ≤ l.length → (bestFrom T n acc l).2 ≤ l.length
  | [], n, acc, h => h
  | s :: r, n, acc, h => by
    simp only [bestFrom]
    apply bestFrom_le l r
    by_cases hc : acc.2 < s.length ∧ s.isPrefixOf l = true
    · rw [if_pos hc]; exact prefix_len s l hc.2
    · rw [if_neg hc]; exact h
theorem nextR_len (xs : List UInt8) (k : Nat) (hk : k < xs.length) (h : (nextR xs k).2 = 0) : 1 ≤ (nextR xs k).1.len ∧ k + (nextR xs k).1.len ≤ xs.length := by
  have hg : xs.getD k 0 = xs[k] := by simp [List.getD, hk]
  have hR : nextR xs k = if wsI ((xs.getD k 0).toNat : Int) = true then wordR xs k else if digI ((xs.getD k 0).toNat : Int) = true then numR xs k else signR xs k := rfl
  cases hw : wsI ((xs.getD k 0).toNat : Int)
  · rw [if_neg (by rw [hw]; simp)] at hR
    cases hd : digI ((xs.getD k 0).toNat : Int)
    · rw [if_neg (by rw [hd]; simp)] at hR
      rw [hR] at h ⊢
      have hle := bestFrom_le (xs.drop k) signsT 40 (0, 0) (Nat.zero_le _)
      simp only [List.length_drop] at hle
      unfold signR at h ⊢
      by_cases h0 : (bestS (xs.drop k)).2 = 0
      · rw [if_pos h0] at h; simp at h
      · rw [if_neg h0]
        unfold bestS at h0 ⊢
        exact ⟨by simp only; omega, by simp only; omega⟩
    · rw [if_pos hd] at hR
      rw [hR] at h ⊢
      have h1 : k < spanTo digI xs k := by
        rw [spanTo_yes _ _ _ hk (by rw [← hg]; exact hd)]
        have := (spanTo_le digI xs (k + 1) (by omega)).1
        omega
      have h2 := (spanTo_le digI xs k (by omega)).2
      unfold numR at h ⊢
      generalize spanTo digI xs k = E at *
      split at h
      · simp at h
      · rename_i n1
        split at h
        · simp at h
        · rename_i n2
          split at h
          · rename_i n3
            rw [if_neg n1, if_neg n2, if_pos n3]
            exact ⟨by simp only; omega, by simp only; omega⟩
          · simp at h
  · rw [if_pos hw] at hR
    rw [hR] at h ⊢
    have h1 : k < spanTo wbI xs k := by
      rw [spanTo_yes _ _ _ hk (by rw [← hg]; unfold wbI; rw [hw]; rfl)]
      have := (spanTo_le wbI xs (k + 1) (by omega)).1
      omega
    have h2 := (spanTo_le wbI xs k (by omega)).2
    unfold wordR at h ⊢
    generalize spanTo wbI xs k = E at *
    split at h
    · rename_i n1
      rw [if_pos n1]
      exact ⟨by simp only; omega, by simp only; omega⟩
    · rename_i n1
      split at h
      · simp at h
      · rename_i n2
        rw [if_neg n1, if_neg n2]
        exact ⟨by simp only; omega, by simp only; omega⟩
end Go.Proofs.YtblhklbpcalglaaGreatDoor
namespace Go.Proofs.YtblhklbpcalglaaGreatDoor
open Go.RowKit
set_option linter.unusedVariables false
set_option linter.unusedSimpArgs false
def scanGo : Nat → List UInt8 → Nat → List Tok → List Tok × Nat × Nat
  | 0, _, _, acc => (acc, 0, 0)
  | f + 1, xs, k, acc =>
    if k < xs.length then
      (if (nextR xs k).2 = 0 then scanGo f xs (skipTo xs (k + (nextR xs k).1.len)) (acc ++ [(nextR xs k).1]) else ([], k, (nextR xs k).2))
    else (acc, 0, 0)
def scanAll (xs : List UInt8) : List Tok × Nat × Nat := if 65536 < xs.length then ([], 65536, 10) else scanGo (xs.length + 1) xs (skipTo xs 0) []
def toksC (l : List Tok) : List Value := l.flatMap tokC
theorem toksC_len (l : List Tok) : (toksC l).length = l.length * 4 := by
  induction l with
  | nil => rfl
  | cons t r ih => unfold toksC at *; simp only [List.flatMap_cons, List.length_append, List.length_cons, ih]; simp [tokC]; omega
theorem toksC_snoc (l : List Tok) (t : Tok) : toksC (l ++ [t]) = toksC l ++ tokC t := by
  unfold toksC; simp
theorem info40 : (Tryz.prog.info? 34).map (fun i => (i.zero, i.size, i.bytes)) = some (some (.agg #[.int .i64 0, .int .i64 0, .int .i64 0, .int .i64 0]), 4, 32) := by kernel_rfl
structure ScanInv (w : World) (xs : List UInt8) (f k : Nat) (acc : List Tok) : Prop where
  eq : scanAll xs = scanGo f xs k acc
  fuel : xs.length - k < f
  few : acc.length ≤ k
def ScanMem (w wr : World) : Prop := Below (w.heap.size + 1) (w.alloc (.cells #[.int .i64 0, .int .i64 0] 27)) wr
theorem ScanMem.below {w wr : World} (h : ScanMem w wr) : Below w.heap.size w wr :=
  ((Below.refl w.heap.size w).alloc (Nat.le_refl _) _).trans (Below.mono h (by omega))
theorem owns_below {w w' : World} {B : Nat} {e : TypeId} {s : Nat} {v : Value} {n : Nat} {cs : List Value} (h : w.ownsRow B e s v n cs) (hb : Below w.heap.size w w') : w'.ownsRow B e s v n cs := by
  obtain ⟨h1, h2⟩ := h
  refine ⟨h1, ?_⟩
  rcases h2 with h2 | ⟨g, cap, cur, hv, hg, hh, r⟩
  · exact .inl h2
  · refine .inr ⟨g, cap, cur, hv, hg, ?_, r⟩
    rw [hb.block g ?_]
    · exact hh
    · rcases Nat.lt_or_ge g w.heap.size with hlt | hge
      · exact hlt
      · rw [Array.getElem?_eq_none hge] at hh; cases hh
theorem owns_base {w : World} {B B' : Nat} {e : TypeId} {s : Nat} {v : Value} {n : Nat} {cs : List Value} (h : w.ownsRow B e s v n cs) (hb : B' ≤ B) : w.ownsRow B' e s v n cs := by
  obtain ⟨h1, h2⟩ := h
  refine ⟨h1, ?_⟩
  rcases h2 with h2 | ⟨g, cap, cur, hv, hg, r⟩
  · exact .inl h2
  · exact .inr ⟨g, cap, cur, hv, by omega, r⟩
def tokO (t : Tok) : Obj := .cells #[.int .i64 t.kind, .int .i64 t.place, .int .i64 t.len, .int .i64 t.num] 34
theorem news_at (w1 : World) (o1 : Obj) (t : Tok) : ∀ j u, (tokC t)[j]? = some u → ((w1.alloc o1).alloc (tokO t)).cell? ((⟨w1.heap.size + 1, 0, none⟩ : Addr).add j) = some u := by
  have h := heap_alloc_new (w1.alloc o1) (tokO t)
  have e : (w1.alloc o1).heap.size = w1.heap.size + 1 := by simp
  rw [e] at h
  exact World.news_of_block (cs := #[.int .i64 t.kind, .int .i64 t.place, .int .i64 t.len, .int .i64 t.num]) h
theorem tokC_one (t : Tok) : ∀ u ∈ tokC t, u.oneCell' = true := by
  intro u hu
  simp only [tokC, List.mem_cons, List.not_mem_nil, or_false] at hu
  rcases hu with rfl | rfl | rfl | rfl <;> rfl
theorem two_below (w1 : World) (o1 o2 : Obj) : Below w1.heap.size w1 ((w1.alloc o1).alloc o2) := ((Below.refl _ _).alloc (Nat.le_refl _) _).alloc (by simp) _
theorem scan_step {w wr w1 w2 : World} {u : Value} {n : Nat} {cs : List Value} {t : Tok} (hown : wr.ownsRow (w.heap.size + 1) 34 4 u n cs) (HB : ScanMem w wr) (hb1 : Below wr.heap.size wr w1)
    (hg : ((w1.alloc (tokO t)).alloc (tokO t)).grownBy w2 u.ownBlock) : ScanMem w w2 ∧ w2.cell? ⟨w1.heap.size, 2, none⟩ = some (.int .i64 t.len) := by
  have hz := Below.size HB
  simp at hz
  have hz1 := hb1.size
  refine ⟨?_, ?_⟩
  · refine Below.grown (Below.trans (Below.trans HB (hb1.mono (by omega))) ((two_below w1 _ _).mono (by omega))) hg (by simp; omega) ?_
    intro k hk
    exact (hown.lt k hk).1
  · rw [hg.cell_far _ (by simp; omega) (by intro e; have := (hown.lt _ e.symm).2; simp at this; omega)]
    simp [tokO]
theorem owns_fault {w wr : World} {u : Value} {n : Nat} {cs : List Value} {x y : Value} (h : wr.ownsRow (w.heap.size + 1) 34 4 u n cs) :
    ((wr.setCell ⟨w.heap.size, 0, none⟩ x).setCell ⟨w.heap.size, 1, none⟩ y).ownsRow w.heap.size 34 4 u n cs :=
  owns_base (ownsRow_setCell_below (ownsRow_setCell_below h (by simp) _) (by simp) _) (by omega)
theorem fault_cells {w wr : World} (HB : ScanMem w wr) : ∀ w1, Below wr.heap.size wr w1 → w1.cell? ⟨w.heap.size, 0, none⟩ = some (.int .i64 0) ∧ w1.cell? ⟨w.heap.size, 1, none⟩ = some (.int .i64 0) ∧ w1.frozen? ⟨w.heap.size, 0, none⟩ = false ∧ w1.frozen? ⟨w.heap.size, 1, none⟩ = false ∧ w.heap.size < w1.heap.size := by
  intro w1 hb1
  have hz1 := hb1.size
  have hz := Below.size HB
  simp at hz
  refine ⟨?_, ?_, ?_, ?_, by omega⟩
  · rw [hb1.cell (by simp; omega), Below.cell HB (by simp)]; simp
  · rw [hb1.cell (by simp; omega), Below.cell HB (by simp)]; simp
  · rw [hb1.frozen (by simp; omega), Below.frozen HB (by simp)]; simp
  · rw [hb1.frozen (by simp; omega), Below.frozen HB (by simp)]; simp
set_option maxRecDepth 100000 in
set_option maxHeartbeats 400000 in
theorem Scan_some (b o cap : Nat) (xs : List UInt8) (w : World) (hs : Src w b o xs) (hb : b < w.heap.size) (hl : xs.length ≤ 65536) (hcap : xs.length ≤ cap) (hL : Laid w) :
    Calls Tryz.prog 6 #[.slice (some ⟨b, o, none⟩) xs.length cap] w fun e w' => ∃ v, e = .returned (.tuple #[v, .agg #[.int .i64 (scanAll xs).2.1, .int .i64 (scanAll xs).2.2]]) ∧ w'.ownsRow w.heap.size 34 4 v (scanAll xs).1.length (toksC (scanAll xs).1) ∧ Below w.heap.size w w' := by
  have hml : xs.length ≤ maxLen := by unfold maxLen; omega
  have hsk := skip_any b o cap xs 0 (w.alloc (.cells #[.int .i64 0, .int .i64 0] 27)) (hs.below hb ((Below.refl _ _).alloc (Nat.le_refl _) _)) hml (Nat.zero_le _)
  have HK : Box _ := ⟨hsk⟩
  have h0 := (skipTo_le xs 0 (Nat.zero_le _)).2
  have hst : ScanInv w xs (xs.length + 1) (skipTo xs 0) [] := ⟨by unfold scanAll; rw [if_neg (by omega)], by omega, Nat.zero_le _⟩
  generalize skipTo xs 0 = k0 at *
  clear hsk
  obtain ⟨i0, hi, hz0, hz1, hz2⟩ := info_parts info40
  go_enter Tryz.func6, Tryz.ntmps6
  go_wp2_with (first | (go_at_call 10; refine Calls.mono HK.out ?_; rintro e w' ⟨rfl, rfl⟩))
  go_loopw [4, 5] (fun v i wr => ∃ f k : Nat, ∃ acc : List Tok, k ≤ xs.length ∧ i = .int .i64 k ∧ wr.ownsRow (w.heap.size + 1) 34 4 v acc.length (toksC acc) ∧ ScanMem w wr ∧ ScanInv w xs f k acc)
    (fun _ i _ => xs.length - (intOf i).toNat)
  case atStart => exact ⟨xs.length + 1, k0, [], h0, rfl, World.ownsRow_nil _ _ _ _, Below.refl _ _, hst⟩
  case round =>
    obtain ⟨f, k, acc, hk, rfl, hown, HB, HE⟩ := hrel
    by_cases hlt : k < xs.length
    · have hsz := HB.below.size
      have HN : Box _ := ⟨next_any b o cap xs k wr (hs.below hb HB.below) (by omega) hl hcap hlt (hL.below HB.below)⟩
      have hlen := nextR_len xs k hlt
      generalize hr : nextR xs k = r at *
      by_cases he : r.2 = 0
      · have hlen := hlen he
        have hnx : f ≠ 0 := by have := HE.fuel; omega
        obtain ⟨f, rfl⟩ : ∃ f', f = f' + 1 := ⟨f - 1, by omega⟩
        have hskl := skipTo_le xs (k + r.1.len) hlen.2
        have HE' : ScanInv w xs f (skipTo xs (k + r.1.len)) (acc ++ [r.1]) := by
          refine ⟨?_, ?_, ?_⟩
          · rw [HE.eq, scanGo, if_pos hlt, hr, if_pos he]
          · have := HE.fuel; omega
          · have := HE.few; simp; omega
        have HSK : Box (∀ w2, Below w.heap.size w w2 → Calls Tryz.prog 10 #[.slice (some ⟨b, o, none⟩) xs.length cap, .int .i64 ((k : Int) + (r.1.len : Int))] w2 fun e w' => e = .returned (.int .i64 (skipTo xs (k + r.1.len))) ∧ w2 = w') :=
          ⟨fun w2 h2 => skip_any b o cap xs (k + r.1.len) w2 (hs.below hb h2) hml hlen.2⟩
        generalize skipTo xs (k + r.1.len) = k' at *
        have hec : ((r.2 : Int) != 0) = false := by rw [he]; rfl
        have hfew := HE.few
        clear HE hr he hs hL HK hst h0
        obtain ⟨hlen1, hlen2⟩ := hlen
        go_wp2_with (first | (go_at_call 11; refine Calls.mono HN.out ?_; rintro e w1 ⟨rfl, hb1⟩; unfold tokV) | (at_builtin; refine wpList_append_lies _ rfl (.tmp 29) (.tmp 31) 30 rfl (w.heap.size + 1) 34 i0 (.agg #[.int .i64 0, .int .i64 0, .int .i64 0, .int .i64 0]) 4 32 Tryz.underlying30 hi hz0 hz1 hz2 rfl (by omega) _ acc.length (toksC acc) rfl (owns_below (owns_below hown hb1) (two_below w1 _ _)) ⟨w1.heap.size + 1, 0, none⟩ 1 1 (tokC r.1) rfl rfl (news_at w1 _ r.1) (tokC_one r.1) (by omega) (by unfold maxLen; omega) (by omega) (by have := Below.size HB; have := hb1.size; simp at *; omega) (w1.heap.size + 2) (by simp) ?_; intro g cp w2 hown2 hgrow hat hlt2; obtain ⟨HB2, hc2⟩ := scan_step hown HB hb1 hgrow; clear hgrow hat hlt2) | (go_at_call 10; refine Calls.mono (HSK.out _ HB2.below) ?_; rintro e w' ⟨rfl, rfl⟩))
        go_roundw
        case rel => exact ⟨f, k', acc ++ [r.1], hskl.2, rfl, by rw [toksC_snoc]; simpa using hown2, HB2, HE'⟩
        case measure => simp [intOf]; omega
      · have hec : ((r.2 : Int) != 0) = true := by rw [bne_iff_ne]; omega
        obtain ⟨f, rfl⟩ : ∃ f', f = f' + 1 := ⟨f - 1, by have := HE.fuel; omega⟩
        have HA : Box (scanAll xs = ([], k, r.2)) := ⟨by rw [HE.eq, scanGo, if_pos hlt, hr, if_neg he]⟩
        have HF := fault_cells HB
        clear HE hr he hs hL HK hst h0 hown hlen
        go_wp2_with (first | (go_at_call 11; refine Calls.mono HN.out ?_; rintro e w1 ⟨rfl, hb1⟩; obtain ⟨p0, p1, p2, p3, p4⟩ := HF w1 hb1; unfold tokV))
        refine bodyPost_ret (v := .tuple #[.slice none 0 0, .agg #[.int .i64 k, .int .i64 r.2]]) (by simp [results, Tryz.results6, go_sem, p0, p1, p4]) rfl ⟨.slice none 0 0, by rw [HA.out], by rw [HA.out]; exact World.ownsRow_nil _ _ _ _, ?_⟩
        exact ((((HB.below.trans (hb1.mono (by omega))).setCell (Nat.le_refl _) _).setCell (Nat.le_refl _) _).alloc (by simp; omega) _)
    · obtain ⟨f, rfl⟩ : ∃ f', f = f' + 1 := ⟨f - 1, by have := HE.fuel; omega⟩
      have HA : Box (scanAll xs = (acc, 0, 0)) := ⟨by rw [HE.eq, scanGo, if_neg hlt]⟩
      have hwr : Below wr.heap.size wr wr := Below.refl _ _
      obtain ⟨p0, p1, p2, p3, p4⟩ := fault_cells HB wr hwr
      clear HE hs hL HK hst h0 hwr
      go_wp2
      refine bodyPost_ret (v := .tuple #[u4, .agg #[.int .i64 0, .int .i64 0]]) (by simp [results, Tryz.results6, go_sem, p0, p1]) rfl ⟨u4, by rw [HA.out]; rfl, by rw [HA.out]; exact owns_fault hown, ?_⟩
      exact (HB.below.setCell (Nat.le_refl _) _).setCell (Nat.le_refl _) _
end Go.Proofs.YtblhklbpcalglaaGreatDoor
namespace Go.Proofs.YtblhklbpcalglaaGreatDoor
open Go.RowKit
set_option linter.unusedVariables false
set_option linter.unusedSimpArgs false
def Covers (xs : List UInt8) : Nat → List Tok → Prop
  | k, [] => skipTo xs k = xs.length
  | k, t :: r => skipTo xs k = t.place ∧ t.place < xs.length ∧ nextR xs t.place = (t, 0) ∧ Covers xs (t.place + t.len) r
theorem nextR_place (xs : List UInt8) (k : Nat) (h : (nextR xs k).2 = 0) : (nextR xs k).1.place = k := by
  unfold nextR at h ⊢
  split at h
  · rename_i h1
    rw [if_pos h1]
    unfold wordR at h ⊢
    split at h
    · rename_i n1; rw [if_pos n1]
    · rename_i n1
      split at h
      · simp at h
      · rename_i n2; rw [if_neg n1, if_neg n2]
  · rename_i h1
    rw [if_neg h1]
    split at h
    · rename_i h2
      rw [if_pos h2]
      unfold numR at h ⊢
      split at h
      · simp at h
      · rename_i n1
        split at h
        · simp at h
        · rename_i n2
          split at h
          · rename_i n3; rw [if_neg n1, if_neg n2, if_pos n3]
          · simp at h
    · rename_i h2
      rw [if_neg h2]
      unfold signR at h ⊢
      split at h
      · simp at h
      · rename_i n1; rw [if_neg n1]
theorem scanGo_covers (xs : List UInt8) : ∀ (f k at_ : Nat) (acc l : List Tok) (a c : Nat), skipTo xs at_ = k → k ≤ xs.length → xs.length - k < f → scanGo f xs k acc = (l, a, c) →
    (c = 0 → ∃ r, l = acc ++ r ∧ Covers xs at_ r) ∧ (c ≠ 0 → l = [] ∧ a ≤ xs.length)
  | 0, k, at_, acc, l, a, c, _, _, hf, _ => absurd hf (Nat.not_lt_zero _)
  | f + 1, k, at_, acc, l, a, c, hk, hl, hf, h => by
    rw [scanGo] at h
    by_cases hlt : k < xs.length
    · rw [if_pos hlt] at h
      by_cases h0 : (nextR xs k).2 = 0
      · rw [if_pos h0] at h
        have hlen := nextR_len xs k hlt h0
        have hpl := nextR_place xs k h0
        have hs := skipTo_le xs (k + (nextR xs k).1.len) hlen.2
        obtain ⟨i1, i2⟩ := scanGo_covers xs f _ (k + (nextR xs k).1.len) _ l a c rfl hs.2 (by omega) h
        refine ⟨fun hc => ?_, i2⟩
        obtain ⟨r, e, hcov⟩ := i1 hc
        refine ⟨(nextR xs k).1 :: r, by rw [e]; simp, ?_⟩
        refine ⟨by rw [hpl]; exact hk, by rw [hpl]; exact hlt, ?_, by rw [hpl]; exact hcov⟩
        rw [hpl]
        exact Prod.ext rfl h0
      · rw [if_neg h0] at h
        have e1 := congrArg (·.1) h
        have e2 := congrArg (·.2.1) h
        have e3 := congrArg (·.2.2) h
        simp only at e1 e2 e3
        refine ⟨fun hc => absurd (e3.trans hc) h0, fun _ => ⟨e1.symm, by omega⟩⟩
    · rw [if_neg hlt] at h
      have e1 := congrArg (·.1) h
      have e3 := congrArg (·.2.2) h
      simp only at e1 e3
      refine ⟨fun _ => ⟨[], by simp [e1], ?_⟩, fun hc => absurd e3.symm hc⟩
      show skipTo xs at_ = xs.length
      omega
theorem scan_covers (xs : List UInt8) (h : (scanAll xs).2.2 = 0) : Covers xs 0 (scanAll xs).1 ∧ xs.length ≤ 65536 := by
  unfold scanAll at h ⊢
  by_cases hl : 65536 < xs.length
  · rw [if_pos hl] at h; simp at h
  · rw [if_neg hl] at h ⊢
    have hs := skipTo_le xs 0 (Nat.zero_le _)
    generalize hg : scanGo (xs.length + 1) xs (skipTo xs 0) [] = R at h ⊢
    obtain ⟨l, a, c⟩ := R
    obtain ⟨h1, _⟩ := scanGo_covers xs (xs.length + 1) (skipTo xs 0) 0 [] l a c rfl hs.2 (by omega) hg
    obtain ⟨r, e, hc⟩ := h1 h
    have e' : l = r := by simpa using e
    exact ⟨by rw [e']; exact hc, by omega⟩
theorem bestFrom_spec (l : List UInt8) : ∀ (T : List (List UInt8)) (n : Nat) (acc : Nat × Nat),
    acc.2 ≤ (bestFrom T n acc l).2 ∧ (∀ s ∈ T, s.isPrefixOf l = true → s.length ≤ (bestFrom T n acc l).2) ∧
    (bestFrom T n acc l = acc ∨ ∃ i, i < T.length ∧ (bestFrom T n acc l).1 = n + i ∧ (T.getD i []).isPrefixOf l = true ∧ (T.getD i []).length = (bestFrom T n acc l).2)
  | [], n, acc => by
    refine ⟨Nat.le_refl _, ?_, .inl rfl⟩
    intro s h
    exact absurd h (List.not_mem_nil)
  | s :: r, n, acc => by
    simp only [bestFrom]
    by_cases hc : acc.2 < s.length ∧ s.isPrefixOf l = true
    · rw [if_pos hc]
      obtain ⟨h1, h2, h3⟩ := bestFrom_spec l r (n + 1) (n, s.length)
      simp only at h1
      refine ⟨by omega, ?_, ?_⟩
      · intro s' hs' hp
        rcases List.mem_cons.1 hs' with rfl | hs'
        · exact h1
        · exact h2 s' hs' hp
      · right
        rcases h3 with h3 | ⟨i, a1, a2, a3, a4⟩
        · refine ⟨0, by simp, by rw [h3]; rfl, by simpa using hc.2, by rw [h3]; rfl⟩
        · exact ⟨i + 1, by simp; omega, by omega, by simpa using a3, by simpa using a4⟩
    · rw [if_neg hc]
      obtain ⟨h1, h2, h3⟩ := bestFrom_spec l r (n + 1) acc
      refine ⟨h1, ?_, ?_⟩
      · intro s' hs' hp
        rcases List.mem_cons.1 hs' with rfl | hs'
        · have : ¬ acc.2 < s'.length := fun h => hc ⟨h, hp⟩
          omega
        · exact h2 s' hs' hp
      · rcases h3 with h3 | ⟨i, a1, a2, a3, a4⟩
        · exact .inl h3
        · exact .inr ⟨i + 1, by simp; omega, by omega, by simpa using a3, by simpa using a4⟩
theorem bestFrom_congr (l l' : List UInt8) : ∀ (T : List (List UInt8)) (n : Nat) (acc : Nat × Nat), (∀ s ∈ T, s.isPrefixOf l = s.isPrefixOf l') → bestFrom T n acc l = bestFrom T n acc l'
  | [], n, acc, _ => rfl
  | s :: r, n, acc, h => by
    simp only [bestFrom]
    rw [h s (List.mem_cons_self), bestFrom_congr l l' r _ _ (fun s' hs' => h s' (List.mem_cons_of_mem _ hs'))]
theorem covers_scanGo (xs : List UInt8) : ∀ (l : List Tok) (at_ f : Nat) (acc : List Tok), at_ ≤ xs.length → Covers xs at_ l → xs.length - skipTo xs at_ < f → scanGo f xs (skipTo xs at_) acc = (acc ++ l, 0, 0)
  | [], at_, f, acc, ha, hc, hf => by
    obtain ⟨f, rfl⟩ : ∃ f', f = f' + 1 := ⟨f - 1, by omega⟩
    have hc : skipTo xs at_ = xs.length := hc
    rw [scanGo, if_neg (by omega)]
    simp
  | t :: r, at_, f, acc, ha, hc, hf => by
    obtain ⟨f, rfl⟩ : ∃ f', f = f' + 1 := ⟨f - 1, by omega⟩
    obtain ⟨q1, q2, q3, q4⟩ := hc
    have hlen := nextR_len xs t.place q2 (by rw [q3])
    rw [q3] at hlen
    simp only at hlen
    have hs := skipTo_le xs (t.place + t.len) hlen.2
    rw [q1] at hf ⊢
    rw [scanGo, if_pos q2, q3]
    simp only [if_true]
    rw [covers_scanGo xs r (t.place + t.len) f (acc ++ [t]) hlen.2 q4 (by omega)]
    simp
theorem covers_scan (xs : List UInt8) (l : List Tok) (h : Covers xs 0 l) (hl : xs.length ≤ 65536) : scanAll xs = (l, 0, 0) := by
  unfold scanAll
  rw [if_neg (by omega), covers_scanGo xs l 0 (xs.length + 1) [] (Nat.zero_le _) h (by omega)]
  simp
def Ends (c : UInt8) : Prop := wbI c.toNat = false ∧ digI c.toNat = false ∧ wsI c.toNat = false ∧ ∀ s ∈ signsT, c ∉ s
theorem spanL_ends (p : Int → Bool) (c : UInt8) (h : p c.toNat = false) (r : List UInt8) : ∀ l : List UInt8, spanL p (l ++ c :: r) = spanL p l
  | [] => by simp [spanL, h]
  | b :: l => by
    have ih := spanL_ends p c h r l
    simp only [List.cons_append, spanL]
    rw [ih]
theorem spanTo_ends (p : Int → Bool) (c : UInt8) (h : p c.toNat = false) (r xs : List UInt8) (k : Nat) (hk : k ≤ xs.length) : spanTo p (xs ++ c :: r) k = spanTo p xs k := by
  unfold spanTo
  rw [List.drop_append_of_le_length hk, spanL_ends p c h r]
theorem cut_ends (xs r : List UInt8) (k e : Nat) (hk : k ≤ e) (he : e ≤ xs.length) : cut (xs ++ r) k e = cut xs k e := by
  unfold cut
  rw [List.drop_append_of_le_length (by omega), List.take_append_of_le_length (by simp; omega)]
theorem getD_left (xs r : List UInt8) (k : Nat) (hk : k < xs.length) : (xs ++ r).getD k 0 = xs.getD k 0 := by
  simp [List.getD, List.getElem?_append, hk]
theorem getD_at (xs r : List UInt8) (c : UInt8) : (xs ++ c :: r).getD xs.length 0 = c := by
  simp [List.getD]
theorem prefix_ends (c : UInt8) (r : List UInt8) : ∀ (s l : List UInt8), c ∉ s → s.isPrefixOf (l ++ c :: r) = s.isPrefixOf l
  | [], l, _ => by simp [List.isPrefixOf]
  | a :: s, [], h => by
    have : a ≠ c := fun e => h (by simp [e])
    simp [List.isPrefixOf, this]
  | a :: s, b :: l, h => by
    have ih := prefix_ends c r s l (fun hm => h (List.mem_cons_of_mem _ hm))
    simp only [List.cons_append, List.isPrefixOf, ih]
theorem best_ends (c : UInt8) (hc : Ends c) (r l : List UInt8) : bestS (l ++ c :: r) = bestS l :=
  bestFrom_congr _ _ signsT 40 (0, 0) (fun s hs => prefix_ends c r s l (hc.2.2.2 s hs))
theorem next_ends (c : UInt8) (hc : Ends c) (r xs : List UInt8) (k : Nat) (hk : k < xs.length) : nextR (xs ++ c :: r) k = nextR xs k := by
  obtain ⟨c1, c2, c3, c4⟩ := hc
  unfold nextR
  rw [getD_left xs (c :: r) k hk]
  have hw : wordR (xs ++ c :: r) k = wordR xs k := by
    have hle := spanTo_le wbI xs k (by omega)
    have hcut : ((xs ++ c :: r).drop k).take (spanTo wbI xs k - k) = (xs.drop k).take (spanTo wbI xs k - k) := cut_ends xs (c :: r) k (spanTo wbI xs k) hle.1 hle.2
    unfold wordR
    rw [spanTo_ends wbI c c1 r xs k (by omega), hcut]
  have hn : numR (xs ++ c :: r) k = numR xs k := by
    have hle := spanTo_le digI xs k (by omega)
    unfold numR
    rw [spanTo_ends digI c c2 r xs k (by omega), getD_left xs (c :: r) k hk, cut_ends xs (c :: r) k _ hle.1 hle.2]
    by_cases he : spanTo digI xs k < xs.length
    · rw [getD_left xs (c :: r) _ he]
      have e : (spanTo digI xs k < (xs ++ c :: r).length ∧ wsI ((xs.getD (spanTo digI xs k) 0).toNat : Int) = true) ↔ (spanTo digI xs k < xs.length ∧ wsI ((xs.getD (spanTo digI xs k) 0).toNat : Int) = true) := by
        constructor
        · intro h; exact ⟨he, h.2⟩
        · intro h; exact ⟨by simp; omega, h.2⟩
      by_cases h1 : spanTo digI xs k < xs.length ∧ wsI ((xs.getD (spanTo digI xs k) 0).toNat : Int) = true
      · rw [if_pos h1, if_pos (e.2 h1)]
      · rw [if_neg h1, if_neg (fun h => h1 (e.1 h))]
    · have he' : spanTo digI xs k = xs.length := by omega
      rw [he', getD_at]
      have n1 : ¬ (xs.length < (xs ++ c :: r).length ∧ wsI (c.toNat : Int) = true) := fun h => by rw [c3] at h; exact absurd h.2 (by simp)
      have n2 : ¬ (xs.length < xs.length ∧ wsI ((xs.getD xs.length 0).toNat : Int) = true) := fun h => absurd h.1 (by omega)
      rw [if_neg n1, if_neg n2]
  have hsg : signR (xs ++ c :: r) k = signR xs k := by
    unfold signR
    rw [List.drop_append_of_le_length (by omega), best_ends c ⟨c1, c2, c3, c4⟩]
  rw [hw, hn, hsg]
end Go.Proofs.YtblhklbpcalglaaGreatDoor
namespace Go.Proofs.YtblhklbpcalglaaGreatDoor
open Go.RowKit
set_option linter.unusedVariables false
set_option linter.unusedSimpArgs false
theorem text_kind (k : Int) (h : textK k ≠ []) : (kindK (textK k) : Int) = k := by
  have hw : ∀ i : Fin 21, kindK (wordsT.getD i []) = 10 + i := by decide
  have hs : ∀ i : Fin 27, kindK (signsT.getD i []) = 40 + i := by decide
  unfold textK at h ⊢
  by_cases h1 : 10 ≤ k ∧ k < 31
  · rw [if_pos h1]
    have := hw ⟨(k - 10).toNat, by omega⟩
    simp only at this
    rw [this]
    omega
  · rw [if_neg h1] at h ⊢
    by_cases h2 : 40 ≤ k ∧ k < 67
    · rw [if_pos h2]
      have := hs ⟨(k - 40).toNat, by omega⟩
      simp only at this
      rw [this]
      omega
    · rw [if_neg h2] at h
      exact absurd rfl h
theorem Text_any (k : Int) (w : World) (ht : TabAt w 1 wordsT) (hs : TabAt w 0 signsT) :
    Calls Tryz.prog 32 #[.int .i64 k] w fun e w' => e = .returned (.string ⟨(textK k).toArray⟩) ∧ w = w' := by
  by_cases h1 : 10 ≤ k ∧ k < 31
  · obtain ⟨j, rfl⟩ : ∃ j : Nat, k = 10 + (j : Int) := ⟨(k - 10).toNat, by omega⟩
    have hj : j < 21 := by omega
    have HK : Hid (textK (10 + (j : Int)) = wordsT.getD j []) := by
      unfold textK Hid; rw [if_pos h1, show (10 + (j : Int) - 10).toNat = j by omega]
    have hc := ht j hj
    obtain ⟨h2, h3⟩ := h1
    go_enter Tryz.func32, Tryz.ntmps32
    go_wp2
    go_ret
    exact ⟨by rw [HK.out]; rfl, rfl⟩
  · by_cases h2 : 40 ≤ k ∧ k < 67
    · obtain ⟨j, rfl⟩ : ∃ j : Nat, k = 40 + (j : Int) := ⟨(k - 40).toNat, by omega⟩
      have hj : j < 27 := by omega
      have HK : Hid (textK (40 + (j : Int)) = signsT.getD j []) := by
        unfold textK Hid; rw [if_neg h1, if_pos h2, show (40 + (j : Int) - 40).toNat = j by omega]
      have hc := hs j hj
      have h4 : decide (40 + (j : Int) < 31) = false := by simp; omega
      have h5 : (10 : Int) ≤ 40 + (j : Int) := by omega
      clear h1
      obtain ⟨h2, h3⟩ := h2
      go_enter Tryz.func32, Tryz.ntmps32
      go_wp2
      go_ret
      exact ⟨by rw [HK.out]; rfl, rfl⟩
    · have HK : Hid (textK k = []) := by unfold textK Hid; rw [if_neg h1, if_neg h2]
      by_cases a1 : k < 10
      · go_enter Tryz.func32, Tryz.ntmps32
        go_wp2
        go_ret
        exact ⟨by rw [HK.out]; rfl, rfl⟩
      · by_cases a2 : k < 40
        · have a3 : 31 ≤ k := by omega
          clear h1 h2
          go_enter Tryz.func32, Tryz.ntmps32
          go_wp2
          go_ret
          exact ⟨by rw [HK.out]; rfl, rfl⟩
        · have a3 : 67 ≤ k := by omega
          clear h1 h2
          go_enter Tryz.func32, Tryz.ntmps32
          go_wp2
          go_ret
          exact ⟨by rw [HK.out]; rfl, rfl⟩
end Go.Proofs.YtblhklbpcalglaaGreatDoor
namespace Go.Proofs.YtblhklbpcalglaaGreatDoor
open Go.RowKit
set_option linter.unusedVariables false
set_option linter.unusedSimpArgs false
theorem prefix_take (s l : List UInt8) (L : Nat) (h : s.isPrefixOf l = true → s.length ≤ L) : s.isPrefixOf (l.take L) = s.isPrefixOf l := by
  rw [Bool.eq_iff_iff, List.isPrefixOf_iff_prefix, List.isPrefixOf_iff_prefix]
  rw [List.isPrefixOf_iff_prefix] at h
  constructor
  · intro hp; exact hp.trans (List.take_prefix _ _)
  · intro hp
    have hle := h hp
    exact (List.prefix_take_iff).2 ⟨hp, hle⟩
end Go.Proofs.YtblhklbpcalglaaGreatDoor
namespace Go.Proofs.YtblhklbpcalglaaGreatDoor
open Go.RowKit
set_option linter.unusedVariables false
set_option linter.unusedSimpArgs false
theorem span_take (p : Int → Bool) : ∀ (l : List UInt8) (n : Nat), spanL p l ≤ n → spanL p (l.take n) = spanL p l
  | [], n, _ => by simp
  | b :: r, 0, h => by
    simp only [List.take_zero, spanL] at h ⊢
    omega
  | b :: r, n + 1, h => by
    simp only [List.take_succ_cons, spanL] at h ⊢
    split
    · rename_i hp
      rw [if_pos hp] at h
      rw [span_take p r n (by omega)]
    · rfl
theorem spanTo_take (p : Int → Bool) (xs : List UInt8) (k e : Nat) (h : spanTo p xs k ≤ e) : spanTo p (xs.take e) k = spanTo p xs k := by
  unfold spanTo at h ⊢
  rw [List.drop_take, span_take p _ _ (by omega)]
theorem getD_take (xs : List UInt8) (k e : Nat) (h : k < e) : (xs.take e).getD k 0 = xs.getD k 0 := by
  simp only [List.getD_eq_getElem?_getD]
  rw [List.getElem?_take_of_lt h]
theorem cut_take (xs : List UInt8) (k j e : Nat) (h : j ≤ e) : cut (xs.take e) k j = cut xs k j := by
  unfold cut
  rw [List.drop_take, List.take_take]
  congr 1
  omega
theorem bestFrom_top (l : List UInt8) : ∀ (T : List (List UInt8)) (n : Nat) (acc : Nat × Nat), acc.2 ≤ (bestFrom T n acc l).2 ∧ ∀ s ∈ T, s.isPrefixOf l = true → s.length ≤ (bestFrom T n acc l).2
  | [], n, acc => ⟨Nat.le_refl _, fun s hs => by cases hs⟩
  | t :: r, n, acc => by
    rw [bestFrom]
    by_cases h : acc.2 < t.length ∧ t.isPrefixOf l = true
    · rw [if_pos h]
      obtain ⟨h1, h2⟩ := bestFrom_top l r (n + 1) (n, t.length)
      refine ⟨by simp only at h1; omega, fun s hs hp => ?_⟩
      rcases List.mem_cons.1 hs with rfl | hs
      · exact h1
      · exact h2 s hs hp
    · rw [if_neg h]
      obtain ⟨h1, h2⟩ := bestFrom_top l r (n + 1) acc
      refine ⟨h1, fun s hs hp => ?_⟩
      rcases List.mem_cons.1 hs with rfl | hs
      · have : ¬ acc.2 < s.length := fun h' => h ⟨h', hp⟩
        omega
      · exact h2 s hs hp
theorem best_take (l : List UInt8) (n : Nat) (h : (bestS l).2 ≤ n) : bestS (l.take n) = bestS l := by
  unfold bestS at h ⊢
  refine bestFrom_congr _ _ _ _ _ (fun s hs => prefix_take s l n (fun hp => ?_))
  have := (bestFrom_top l signsT 40 (0, 0)).2 s hs hp
  omega
theorem next_take (xs : List UInt8) (k e : Nat) (t : Tok) (hk : k < xs.length) (he : e ≤ xs.length) (h : nextR xs k = (t, 0)) (hl : k + t.len ≤ e) : nextR (xs.take e) k = (t, 0) := by
  have h2 : (nextR xs k).2 = 0 := by rw [h]
  have h1 : (nextR xs k).1 = t := by rw [h]
  have hlen := nextR_len xs k hk h2
  rw [h1] at hlen
  have hte : (xs.take e).length = e := by rw [List.length_take]; omega
  unfold nextR at h ⊢
  rw [getD_take xs k e (by omega)]
  by_cases w1 : wsI ((xs.getD k 0).toNat : Int) = true
  · rw [if_pos w1] at h ⊢
    have hsl := spanTo_le wbI xs k (by omega)
    have hsp : spanTo wbI xs k ≤ e := by
      unfold wordR at h
      split at h
      · have e1 := (Prod.mk.inj h).1
        subst e1
        simp only at hl
        omega
      · split at h
        · simp at h
        · have e1 := (Prod.mk.inj h).1
          subst e1
          simp only at hl
          omega
    unfold wordR at h ⊢
    rw [spanTo_take wbI xs k e hsp]
    have hc : ((xs.take e).drop k).take (spanTo wbI xs k - k) = (xs.drop k).take (spanTo wbI xs k - k) := cut_take xs k (spanTo wbI xs k) e hsp
    rw [hc]
    exact h
  · rw [if_neg w1] at h ⊢
    by_cases w2 : digI ((xs.getD k 0).toNat : Int) = true
    · rw [if_pos w2] at h ⊢
      have hsl := spanTo_le digI xs k (by omega)
      unfold numR at h
      split at h
      · simp at h
      · rename_i n1
        split at h
        · simp at h
        · rename_i n2
          split at h
          · rename_i n3
            have e1 := (Prod.mk.inj h).1
            subst e1
            simp only at hl hlen
            have hsp : spanTo digI xs k ≤ e := by omega
            unfold numR
            rw [spanTo_take digI xs k e hsp, hte, getD_take xs k e (by omega), cut_take xs k _ e hsp]
            have n1' : ¬ (spanTo digI xs k < e ∧ wsI (((xs.take e).getD (spanTo digI xs k) 0).toNat : Int) = true) := fun hh => by
              rw [getD_take xs _ e hh.1] at hh
              exact n1 ⟨by omega, hh.2⟩
            rw [if_neg n1', if_neg n2, if_pos n3]
          · simp at h
    · rw [if_neg w2] at h ⊢
      unfold signR at h ⊢
      split at h
      · simp at h
      · rename_i n1
        have e1 := (Prod.mk.inj h).1
        subst e1
        simp only at hl
        rw [List.drop_take, best_take (xs.drop k) (e - k) (by omega), if_neg n1]
theorem skip_cutb : ∀ (l : List UInt8) (m : Bool) (n : Nat) (z : List UInt8), skipL m l < n → n ≤ l.length → skipL m (l.take n ++ z) = skipL m l
  | [], m, n, z, h1, h2 => by simp at h2; omega
  | b :: r, m, 0, z, h1, h2 => by omega
  | b :: r, true, n + 1, z, h1, h2 => by
    simp only [List.length_cons] at h2
    simp only [List.take_succ_cons, List.cons_append, skipL] at h1 ⊢
    split
    · rename_i hb
      rw [if_pos hb] at h1
      rw [skip_cutb r true n z (by omega) (by omega)]
    · rename_i hb
      rw [if_neg hb] at h1
      rw [skip_cutb r false n z (by omega) (by omega)]
  | b :: r, false, n + 1, z, h1, h2 => by
    simp only [List.length_cons] at h2
    simp only [List.take_succ_cons, List.cons_append, skipL] at h1 ⊢
    split
    · rename_i hb
      rw [if_pos hb] at h1
      rw [skip_cutb r false n z (by omega) (by omega)]
    · rename_i hb
      rw [if_neg hb] at h1
      split
      · rename_i hb2
        rw [if_pos hb2] at h1
        rw [skip_cutb r true n z (by omega) (by omega)]
      · rfl
theorem skip_cut : ∀ (l : List UInt8) (m : Bool) (n : Nat), n ≤ skipL m l → skipL m (l.take n) = n
  | [], m, n, h => by
    have : n = 0 := by cases m <;> simpa [skipL] using h
    subst this
    cases m <;> rfl
  | b :: r, m, 0, h => by cases m <;> rfl
  | b :: r, true, n + 1, h => by
    simp only [List.take_succ_cons, skipL] at h ⊢
    split
    · rename_i hb
      rw [if_pos hb] at h
      rw [skip_cut r true n (by omega)]
    · rename_i hb
      rw [if_neg hb] at h
      rw [skip_cut r false n (by omega)]
  | b :: r, false, n + 1, h => by
    simp only [List.take_succ_cons, skipL] at h ⊢
    split
    · rename_i hb
      rw [if_pos hb] at h
      rw [skip_cut r false n (by omega)]
    · rename_i hb
      rw [if_neg hb] at h
      split
      · rename_i hb2
        rw [if_pos hb2] at h
        rw [skip_cut r true n (by omega)]
      · rename_i hb2
        rw [if_neg hb2] at h
        omega
theorem skipTo_cutb (xs z : List UInt8) (k e : Nat) (h : skipTo xs k < e) (he : e ≤ xs.length) : skipTo (xs.take e ++ z) k = skipTo xs k := by
  unfold skipTo at h ⊢
  have hke : k ≤ e := by omega
  have hd : (xs.take e ++ z).drop k = (xs.drop k).take (e - k) ++ z := by
    rw [List.drop_append_of_le_length (by rw [List.length_take]; omega), List.drop_take]
  rw [hd, skip_cutb (xs.drop k) false (e - k) z (by omega) (by rw [List.length_drop]; omega)]
theorem skipTo_cut (xs : List UInt8) (k e : Nat) (hk : k ≤ e) (h : e ≤ skipTo xs k) : skipTo (xs.take e) k = e := by
  unfold skipTo at h ⊢
  rw [List.drop_take, skip_cut _ _ _ (by omega)]
  omega
theorem covers_ahead (xs : List UInt8) (t : Tok) (rest : List Tok) : ∀ (pre : List Tok) (k : Nat), k ≤ t.place → Covers xs k (pre ++ t :: rest) → (∀ u ∈ pre, u.place + u.len ≤ t.place) → Covers (xs.take t.place) k pre
  | [], k, hk, h, _ => by
    obtain ⟨q1, q2, q3, q4⟩ := h
    show skipTo (xs.take t.place) k = (xs.take t.place).length
    rw [skipTo_cut xs k t.place hk (by omega), List.length_take]
    omega
  | u :: r, k, hk, h, hu => by
    obtain ⟨q1, q2, q3, q4⟩ := h
    have hlt : t.place < xs.length := by
      have : ∀ (pre : List Tok) (k : Nat), Covers xs k (pre ++ t :: rest) → t.place < xs.length := fun pre => by
        induction pre with
        | nil => intro k h; exact h.2.1
        | cons u r ih => intro k h; exact ih _ h.2.2.2
      exact this _ _ q4
    have h1 := hu u (List.mem_cons_self ..)
    have hlen := nextR_len xs u.place q2 (by rw [q3])
    rw [q3] at hlen
    simp only at hlen
    refine ⟨?_, by rw [List.length_take]; omega, next_take xs u.place t.place u q2 (by omega) q3 h1, covers_ahead xs t rest r _ h1 q4 (fun v hv => hu v (List.mem_cons_of_mem _ hv))⟩
    have := skipTo_cutb xs [] k t.place (by omega) (by omega)
    rw [List.append_nil] at this
    rw [this]
    exact q1
theorem covers_behind (xs z : List UInt8) (t : Tok) (rest : List Tok) (e : Nat) (he : t.place + t.len = e) (hel : e ≤ xs.length) : ∀ (pre : List Tok) (k : Nat) (l2 : List Tok), Covers xs k (pre ++ t :: rest) → (∀ u ∈ pre, u.place + u.len ≤ e) → Covers (xs.take e ++ 32 :: z) k l2 → ∃ rest2, l2 = pre ++ t :: rest2
  | [], k, l2, h, _, h2 => by
    obtain ⟨q1, q2, q3, q4⟩ := h
    have hlen := nextR_len xs t.place q2 (by rw [q3])
    rw [q3] at hlen
    simp only at hlen
    have hte : (xs.take e).length = e := by rw [List.length_take]; omega
    have hs : skipTo (xs.take e ++ 32 :: z) k = t.place := by rw [skipTo_cutb xs _ k e (by omega) hel]; exact q1
    have hn : nextR (xs.take e ++ 32 :: z) t.place = (t, 0) := by rw [next_ends 32 ⟨rfl, rfl, rfl, by decide⟩ z (xs.take e) t.place (by omega)]; exact next_take xs t.place e t q2 hel q3 (by omega)
    cases l2 with
    | nil =>
      have : skipTo (xs.take e ++ 32 :: z) k = (xs.take e ++ 32 :: z).length := h2
      rw [hs, List.length_append, hte] at this
      omega
    | cons v r2 =>
      obtain ⟨p1, p2, p3, p4⟩ := h2
      rw [hs] at p1
      rw [← p1, hn] at p3
      have := (Prod.mk.inj p3).1
      subst this
      exact ⟨r2, rfl⟩
  | u :: r, k, l2, h, hu, h2 => by
    obtain ⟨q1, q2, q3, q4⟩ := h
    have h1 := hu u (List.mem_cons_self ..)
    have hlen := nextR_len xs u.place q2 (by rw [q3])
    rw [q3] at hlen
    simp only at hlen
    have hte : (xs.take e).length = e := by rw [List.length_take]; omega
    have hs : skipTo (xs.take e ++ 32 :: z) k = u.place := by rw [skipTo_cutb xs _ k e (by omega) hel]; exact q1
    have hn : nextR (xs.take e ++ 32 :: z) u.place = (u, 0) := by rw [next_ends 32 ⟨rfl, rfl, rfl, by decide⟩ z (xs.take e) u.place (by omega)]; exact next_take xs u.place e u q2 hel q3 h1
    cases l2 with
    | nil =>
      have : skipTo (xs.take e ++ 32 :: z) k = (xs.take e ++ 32 :: z).length := h2
      rw [hs, List.length_append, hte] at this
      omega
    | cons v r2 =>
      obtain ⟨p1, p2, p3, p4⟩ := h2
      rw [hs] at p1
      rw [← p1, hn] at p3
      have := (Prod.mk.inj p3).1
      subst this
      obtain ⟨rest2, rfl⟩ := covers_behind xs z t rest e he hel r _ r2 q4 (fun v hv => hu v (List.mem_cons_of_mem _ hv)) p4
      exact ⟨rest2, rfl⟩
end Go.Proofs.YtblhklbpcalglaaGreatDoor
