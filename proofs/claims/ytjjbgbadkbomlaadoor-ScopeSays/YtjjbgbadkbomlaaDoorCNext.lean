import Derived.Test.YtjjbgbadkbomlaaDoorCSignP
import Derived.Deep.AppendLies
namespace Go.Proofs.YtjjbgbadkbomlaaDoor
open Go.RowKit
set_option linter.unusedVariables false
set_option linter.unusedSimpArgs false

/-- the tables and the error stand where they were laid -/
structure Laid (w : World) : Prop where
  words : TabAt w 1 wordsT
  signs : TabAt w 0 signsT
  range : ∃ te pe, w.cell? ⟨3, 0, none⟩ = some (.iface te pe)
  size : 3 < w.heap.size
theorem Laid.below {w w' : World} (h : Laid w) (hb : Below w.heap.size w w') : Laid w' := by
  have h3 := h.size
  refine ⟨h.words.below (by omega) hb, h.signs.below (by omega) hb, ?_, by have := hb.size; omega⟩
  obtain ⟨te, pe, hc⟩ := h.range
  exact ⟨te, pe, by rw [hb.cell (by exact h3)]; exact hc⟩

/-- the token that stands at k -/
def nextR (xs : List UInt8) (k : Nat) : Tok × Nat :=
  if wsI ((xs.getD k 0).toNat : Int) = true then wordR xs k else if digI ((xs.getD k 0).toNat : Int) = true then numR xs k else signR xs k

def z4 : Obj := .cells #[.int .i64 0, .int .i64 0, .int .i64 0, .int .i64 0] 88

set_option maxHeartbeats 400000 in
theorem next_word (b o cap : Nat) (n k : Nat) (w : World) (c : Int) (t : Tok) (e0 : Int) (hc : w.cell? ⟨b, o + k, none⟩ = some (.int .u8 c)) (hb : b < w.heap.size) (hl : n ≤ 65536) (hk : k < n) (hw : wsI c = true)
    (HC : Box (∀ o', Calls Tryd.prog 70 #[.slice (some ⟨b, o, none⟩) n cap, .int .i64 k] (w.alloc o') fun e w' => e = .returned (.tuple #[tokV t, .int .i64 e0]) ∧ Below (w.alloc o').heap.size (w.alloc o') w')) :
    Calls Tryd.prog 65 #[.slice (some ⟨b, o, none⟩) n cap, .int .i64 k] w fun e w' => e = .returned (.tuple #[tokV t, .int .i64 e0]) ∧ Below w.heap.size w w' := by
  go_enter Tryd.func65, Tryd.ntmps65
  go_wp2_with (first | (go_at_call 69; refine (isWordStart_any _ _).mono ?_; rintro e w' ⟨rfl, rfl⟩) | (go_at_call 70; refine Calls.mono (HC.out _) ?_; rintro e w1 ⟨rfl, hb1⟩; obtain ⟨hcc, hff⟩ := bcell hb1; have hsz : w.heap.size < w1.heap.size := (by have := hb1.size; simp at this; omega); unfold tokV))
  refine bodyPost_ret (v := .tuple #[tokV t, .int .i64 e0]) (by simp [results, Tryd.results65, go_sem, tokV, hcc, hsz]) rfl ⟨rfl, ?_⟩
  exact ((((((Below.refl _ _).alloc (Nat.le_refl _) _).trans (hb1.mono (by simp))).setCell (Nat.le_refl _) _).setCell (Nat.le_refl _) _).setCell (Nat.le_refl _) _).setCell (Nat.le_refl _) _
set_option maxHeartbeats 400000 in
theorem next_num (b o cap : Nat) (n k : Nat) (w : World) (c : Int) (t : Tok) (e0 : Int) (hc : w.cell? ⟨b, o + k, none⟩ = some (.int .u8 c)) (hb : b < w.heap.size) (hl : n ≤ 65536) (hk : k < n) (hw : wsI c = false) (hd : digI c = true)
    (HC : Box (∀ o', Calls Tryd.prog 72 #[.slice (some ⟨b, o, none⟩) n cap, .int .i64 k] (w.alloc o') fun e w' => e = .returned (.tuple #[tokV t, .int .i64 e0]) ∧ Below (w.alloc o').heap.size (w.alloc o') w')) :
    Calls Tryd.prog 65 #[.slice (some ⟨b, o, none⟩) n cap, .int .i64 k] w fun e w' => e = .returned (.tuple #[tokV t, .int .i64 e0]) ∧ Below w.heap.size w w' := by
  go_enter Tryd.func65, Tryd.ntmps65
  go_wp2_with (first | (go_at_call 71; refine (isDigit_any _ _).mono ?_; rintro e w' ⟨rfl, rfl⟩) | (go_at_call 69; refine (isWordStart_any _ _).mono ?_; rintro e w' ⟨rfl, rfl⟩) | (go_at_call 72; refine Calls.mono (HC.out _) ?_; rintro e w1 ⟨rfl, hb1⟩; obtain ⟨hcc, hff⟩ := bcell hb1; have hsz : w.heap.size < w1.heap.size := (by have := hb1.size; simp at this; omega); unfold tokV))
  refine bodyPost_ret (v := .tuple #[tokV t, .int .i64 e0]) (by simp [results, Tryd.results65, go_sem, tokV, hcc, hsz]) rfl ⟨rfl, ?_⟩
  exact ((((((Below.refl _ _).alloc (Nat.le_refl _) _).trans (hb1.mono (by simp))).setCell (Nat.le_refl _) _).setCell (Nat.le_refl _) _).setCell (Nat.le_refl _) _).setCell (Nat.le_refl _) _
set_option maxHeartbeats 400000 in
theorem next_sign (b o cap : Nat) (n k : Nat) (w : World) (c : Int) (t : Tok) (e0 : Int) (hc : w.cell? ⟨b, o + k, none⟩ = some (.int .u8 c)) (hb : b < w.heap.size) (hl : n ≤ 65536) (hk : k < n) (hw : wsI c = false) (hd : digI c = false)
    (HC : Box (∀ o', Calls Tryd.prog 73 #[.slice (some ⟨b, o, none⟩) n cap, .int .i64 k] (w.alloc o') fun e w' => e = .returned (.tuple #[tokV t, .int .i64 e0]) ∧ Below (w.alloc o').heap.size (w.alloc o') w')) :
    Calls Tryd.prog 65 #[.slice (some ⟨b, o, none⟩) n cap, .int .i64 k] w fun e w' => e = .returned (.tuple #[tokV t, .int .i64 e0]) ∧ Below w.heap.size w w' := by
  go_enter Tryd.func65, Tryd.ntmps65
  go_wp2_with (first | (go_at_call 71; refine (isDigit_any _ _).mono ?_; rintro e w' ⟨rfl, rfl⟩) | (go_at_call 69; refine (isWordStart_any _ _).mono ?_; rintro e w' ⟨rfl, rfl⟩) | (go_at_call 73; refine Calls.mono (HC.out _) ?_; rintro e w1 ⟨rfl, hb1⟩; obtain ⟨hcc, hff⟩ := bcell hb1; have hsz : w.heap.size < w1.heap.size := (by have := hb1.size; simp at this; omega); unfold tokV))
  refine bodyPost_ret (v := .tuple #[tokV t, .int .i64 e0]) (by simp [results, Tryd.results65, go_sem, tokV, hcc, hsz]) rfl ⟨rfl, ?_⟩
  exact ((((((Below.refl _ _).alloc (Nat.le_refl _) _).trans (hb1.mono (by simp))).setCell (Nat.le_refl _) _).setCell (Nat.le_refl _) _).setCell (Nat.le_refl _) _).setCell (Nat.le_refl _) _

theorem next_any (b o cap : Nat) (xs : List UInt8) (k : Nat) (w : World) (hs : Src w b o xs) (hb : b < w.heap.size) (hl : xs.length ≤ 65536) (hcap : xs.length ≤ cap) (hk : k < xs.length) (hL : Laid w) :
    Calls Tryd.prog 65 #[.slice (some ⟨b, o, none⟩) xs.length cap, .int .i64 k] w fun e w' => e = .returned (.tuple #[tokV (nextR xs k).1, .int .i64 (nextR xs k).2]) ∧ Below w.heap.size w w' := by
  have hml : xs.length ≤ maxLen := by unfold maxLen; omega
  have hbl : ∀ o', Below w.heap.size w (w.alloc o') := fun o' => (Below.refl _ _).alloc (Nat.le_refl _) _
  have hc : w.cell? ⟨b, o + k, none⟩ = some (.int .u8 ((xs.getD k 0).toNat : Int)) := by
    rw [hs k hk]; simp [List.getD, hk]
  have hg : xs.getD k 0 = xs[k] := by simp [List.getD, hk]
  have hR : nextR xs k = if wsI ((xs.getD k 0).toNat : Int) = true then wordR xs k else if digI ((xs.getD k 0).toNat : Int) = true then numR xs k else signR xs k := rfl
  have hb' : ∀ o', b < (w.alloc o').heap.size := fun o' => by have := (hbl o').size; omega
  cases hw : wsI ((xs.getD k 0).toNat : Int)
  · rw [if_neg (by rw [hw]; simp)] at hR
    cases hd : digI ((xs.getD k 0).toNat : Int)
    · rw [if_neg (by rw [hd]; simp)] at hR
      rw [hR]
      refine next_sign b o cap xs.length k w _ _ _ hc hb hl hk hw hd ⟨fun o' => ?_⟩
      have hL' := hL.below (hbl o')
      have := hL'.size
      exact sign_loop b o cap xs k _ (hs.below hb (hbl o')) (hb' o') hml hcap hk hL'.signs (by omega)
    · rw [if_pos hd] at hR
      rw [hR]
      refine next_num b o cap xs.length k w _ _ _ hc hb hl hk hw hd ⟨fun o' => ?_⟩
      have hL' := hL.below (hbl o')
      obtain ⟨te, pe, h3⟩ := hL'.range
      refine number_any b o cap xs k _ (hs.below hb (hbl o')) (hb' o') hl hcap ?_ te pe hL'.size h3
      rw [spanTo_yes _ _ _ hk (by rw [← hg]; exact hd)]
      have := (spanTo_le digI xs (k + 1) (by omega)).1
      omega
  · rw [if_pos hw] at hR
    rw [hR]
    refine next_word b o cap xs.length k w _ _ _ hc hb hl hk hw ⟨fun o' => ?_⟩
    have hL' := hL.below (hbl o')
    have := hL'.size
    refine word_any b o cap xs k _ (hs.below hb (hbl o')) (hb' o') hml hcap ?_ hL'.words (by omega)
    rw [spanTo_yes _ _ _ hk (by rw [← hg]; unfold wbI; rw [hw]; rfl)]
    have := (spanTo_le wbI xs (k + 1) (by omega)).1
    omega

theorem prefix_len (s l : List UInt8) (h : s.isPrefixOf l = true) : s.length ≤ l.length := (List.isPrefixOf_iff_prefix.1 h).length_le
theorem bestFrom_le (l : List UInt8) : ∀ (T : List (List UInt8)) (n : Nat) (acc : Nat × Nat), acc.2 ≤ l.length → (bestFrom T n acc l).2 ≤ l.length
  | [], n, acc, h => h
  | s :: r, n, acc, h => by
    simp only [bestFrom]
    apply bestFrom_le l r
    by_cases hc : acc.2 < s.length ∧ s.isPrefixOf l = true
    · rw [if_pos hc]; exact prefix_len s l hc.2
    · rw [if_neg hc]; exact h

theorem nextR_len (xs : List UInt8) (k : Nat) (hk : k < xs.length) (h : (nextR xs k).2 = 0) : 1 ≤ (nextR xs k).1.len ∧ k + (nextR xs k).1.len ≤ xs.length := by
  have hg : xs.getD k 0 = xs[k] := by simp [List.getD, hk]
  have hR : nextR xs k = if wsI ((xs.getD k 0).toNat : Int) = true then wordR xs k else if digI ((xs.getD k 0).toNat : Int) = true then numR xs k else signR xs k := rfl
  cases hw : wsI ((xs.getD k 0).toNat : Int)
  · rw [if_neg (by rw [hw]; simp)] at hR
    cases hd : digI ((xs.getD k 0).toNat : Int)
    · rw [if_neg (by rw [hd]; simp)] at hR
      rw [hR] at h ⊢
      have hle := bestFrom_le (xs.drop k) signsT 40 (0, 0) (Nat.zero_le _)
      simp only [List.length_drop] at hle
      unfold signR at h ⊢
      by_cases h0 : (bestS (xs.drop k)).2 = 0
      · rw [if_pos h0] at h; simp at h
      · rw [if_neg h0]
        unfold bestS at h0 ⊢
        exact ⟨by simp only; omega, by simp only; omega⟩
    · rw [if_pos hd] at hR
      rw [hR] at h ⊢
      have h1 : k < spanTo digI xs k := by
        rw [spanTo_yes _ _ _ hk (by rw [← hg]; exact hd)]
        have := (spanTo_le digI xs (k + 1) (by omega)).1
        omega
      have h2 := (spanTo_le digI xs k (by omega)).2
      unfold numR at h ⊢
      generalize spanTo digI xs k = E at *
      split at h
      · simp at h
      · rename_i n1
        split at h
        · simp at h
        · rename_i n2
          split at h
          · rename_i n3
            rw [if_neg n1, if_neg n2, if_pos n3]
            exact ⟨by simp only; omega, by simp only; omega⟩
          · simp at h
  · rw [if_pos hw] at hR
    rw [hR] at h ⊢
    have h1 : k < spanTo wbI xs k := by
      rw [spanTo_yes _ _ _ hk (by rw [← hg]; unfold wbI; rw [hw]; rfl)]
      have := (spanTo_le wbI xs (k + 1) (by omega)).1
      omega
    have h2 := (spanTo_le wbI xs k (by omega)).2
    unfold wordR at h ⊢
    generalize spanTo wbI xs k = E at *
    split at h
    · rename_i n1
      rw [if_pos n1]
      exact ⟨by simp only; omega, by simp only; omega⟩
    · rename_i n1
      split at h
      · simp at h
      · rename_i n2
        rw [if_neg n1, if_neg n2]
        exact ⟨by simp only; omega, by simp only; omega⟩
end Go.Proofs.YtjjbgbadkbomlaaDoor
namespace Go.Proofs.YtjjbgbadkbomlaaDoor
open Go.RowKit
set_option linter.unusedVariables false
set_option linter.unusedSimpArgs false

/-- what is scanned from k on, with what stood ahead -/
def scanGo : Nat → List UInt8 → Nat → List Tok → List Tok × Nat × Nat
  | 0, _, _, acc => (acc, 0, 0)
  | f + 1, xs, k, acc =>
    if k < xs.length then
      (if (nextR xs k).2 = 0 then scanGo f xs (skipTo xs (k + (nextR xs k).1.len)) (acc ++ [(nextR xs k).1]) else ([], k, (nextR xs k).2))
    else (acc, 0, 0)
/-- THE TOKENS OF A SOURCE; where it is wrong, and how -/
def scanAll (xs : List UInt8) : List Tok × Nat × Nat := if 65536 < xs.length then ([], 65536, 10) else scanGo (xs.length + 1) xs (skipTo xs 0) []

def toksC (l : List Tok) : List Value := l.flatMap tokC
theorem toksC_len (l : List Tok) : (toksC l).length = l.length * 4 := by
  induction l with
  | nil => rfl
  | cons t r ih => unfold toksC at *; simp only [List.flatMap_cons, List.length_append, List.length_cons, ih]; simp [tokC]; omega
theorem toksC_snoc (l : List Tok) (t : Tok) : toksC (l ++ [t]) = toksC l ++ tokC t := by
  unfold toksC; simp

theorem info40 : (Tryd.prog.info? 88).map (fun i => (i.zero, i.size, i.bytes)) = some (some (.agg #[.int .i64 0, .int .i64 0, .int .i64 0, .int .i64 0]), 4, 32) := by kernel_rfl

/-- what holds ahead of a round -/
structure ScanInv (w : World) (xs : List UInt8) (f k : Nat) (acc : List Tok) : Prop where
  eq : scanAll xs = scanGo f xs k acc
  fuel : xs.length - k < f
  few : acc.length ≤ k
def ScanMem (w wr : World) : Prop := Below (w.heap.size + 1) (w.alloc (.cells #[.int .i64 0, .int .i64 0] 31)) wr
theorem ScanMem.below {w wr : World} (h : ScanMem w wr) : Below w.heap.size w wr :=
  ((Below.refl w.heap.size w).alloc (Nat.le_refl _) _).trans (Below.mono h (by omega))

theorem owns_below {w w' : World} {B : Nat} {e : TypeId} {s : Nat} {v : Value} {n : Nat} {cs : List Value} (h : w.ownsRow B e s v n cs) (hb : Below w.heap.size w w') : w'.ownsRow B e s v n cs := by
  obtain ⟨h1, h2⟩ := h
  refine ⟨h1, ?_⟩
  rcases h2 with h2 | ⟨g, cap, cur, hv, hg, hh, r⟩
  · exact .inl h2
  · refine .inr ⟨g, cap, cur, hv, hg, ?_, r⟩
    rw [hb.block g ?_]
    · exact hh
    · rcases Nat.lt_or_ge g w.heap.size with hlt | hge
      · exact hlt
      · rw [Array.getElem?_eq_none hge] at hh; cases hh
theorem owns_base {w : World} {B B' : Nat} {e : TypeId} {s : Nat} {v : Value} {n : Nat} {cs : List Value} (h : w.ownsRow B e s v n cs) (hb : B' ≤ B) : w.ownsRow B' e s v n cs := by
  obtain ⟨h1, h2⟩ := h
  refine ⟨h1, ?_⟩
  rcases h2 with h2 | ⟨g, cap, cur, hv, hg, r⟩
  · exact .inl h2
  · exact .inr ⟨g, cap, cur, hv, by omega, r⟩

/-- a token's block -/
def tokO (t : Tok) : Obj := .cells #[.int .i64 t.kind, .int .i64 t.place, .int .i64 t.len, .int .i64 t.num] 88
theorem news_at (w1 : World) (o1 : Obj) (t : Tok) : ∀ j u, (tokC t)[j]? = some u → ((w1.alloc o1).alloc (tokO t)).cell? ((⟨w1.heap.size + 1, 0, none⟩ : Addr).add j) = some u := by
  have h := heap_alloc_new (w1.alloc o1) (tokO t)
  have e : (w1.alloc o1).heap.size = w1.heap.size + 1 := by simp
  rw [e] at h
  exact World.news_of_block (cs := #[.int .i64 t.kind, .int .i64 t.place, .int .i64 t.len, .int .i64 t.num]) h
theorem tokC_one (t : Tok) : ∀ u ∈ tokC t, u.oneCell' = true := by
  intro u hu
  simp only [tokC, List.mem_cons, List.not_mem_nil, or_false] at hu
  rcases hu with rfl | rfl | rfl | rfl <;> rfl
theorem two_below (w1 : World) (o1 o2 : Obj) : Below w1.heap.size w1 ((w1.alloc o1).alloc o2) := ((Below.refl _ _).alloc (Nat.le_refl _) _).alloc (by simp) _

theorem scan_step {w wr w1 w2 : World} {u : Value} {n : Nat} {cs : List Value} {t : Tok} (hown : wr.ownsRow (w.heap.size + 1) 88 4 u n cs) (HB : ScanMem w wr) (hb1 : Below wr.heap.size wr w1)
    (hg : ((w1.alloc (tokO t)).alloc (tokO t)).grownBy w2 u.ownBlock) : ScanMem w w2 ∧ w2.cell? ⟨w1.heap.size, 2, none⟩ = some (.int .i64 t.len) := by
  have hz := Below.size HB
  simp at hz
  have hz1 := hb1.size
  refine ⟨?_, ?_⟩
  · refine Below.grown (Below.trans (Below.trans HB (hb1.mono (by omega))) ((two_below w1 _ _).mono (by omega))) hg (by simp; omega) ?_
    intro k hk
    exact (hown.lt k hk).1
  · rw [hg.cell_far _ (by simp; omega) (by intro e; have := (hown.lt _ e.symm).2; simp at this; omega)]
    simp [tokO]

theorem owns_fault {w wr : World} {u : Value} {n : Nat} {cs : List Value} {x y : Value} (h : wr.ownsRow (w.heap.size + 1) 88 4 u n cs) :
    ((wr.setCell ⟨w.heap.size, 0, none⟩ x).setCell ⟨w.heap.size, 1, none⟩ y).ownsRow w.heap.size 88 4 u n cs :=
  owns_base (ownsRow_setCell_below (ownsRow_setCell_below h (by simp) _) (by simp) _) (by omega)

/-- the place of the fault -/
theorem fault_cells {w wr : World} (HB : ScanMem w wr) : ∀ w1, Below wr.heap.size wr w1 → w1.cell? ⟨w.heap.size, 0, none⟩ = some (.int .i64 0) ∧ w1.cell? ⟨w.heap.size, 1, none⟩ = some (.int .i64 0) ∧ w1.frozen? ⟨w.heap.size, 0, none⟩ = false ∧ w1.frozen? ⟨w.heap.size, 1, none⟩ = false ∧ w.heap.size < w1.heap.size := by
  intro w1 hb1
  have hz1 := hb1.size
  have hz := Below.size HB
  simp at hz
  refine ⟨?_, ?_, ?_, ?_, by omega⟩
  · rw [hb1.cell (by simp; omega), Below.cell HB (by simp)]; simp
  · rw [hb1.cell (by simp; omega), Below.cell HB (by simp)]; simp
  · rw [hb1.frozen (by simp; omega), Below.frozen HB (by simp)]; simp
  · rw [hb1.frozen (by simp; omega), Below.frozen HB (by simp)]; simp

set_option maxRecDepth 100000 in
set_option maxHeartbeats 400000 in
theorem Scan_some (b o cap : Nat) (xs : List UInt8) (w : World) (hs : Src w b o xs) (hb : b < w.heap.size) (hl : xs.length ≤ 65536) (hcap : xs.length ≤ cap) (hL : Laid w) :
    Calls Tryd.prog 61 #[.slice (some ⟨b, o, none⟩) xs.length cap] w fun e w' => ∃ v, e = .returned (.tuple #[v, .agg #[.int .i64 (scanAll xs).2.1, .int .i64 (scanAll xs).2.2]]) ∧ w'.ownsRow w.heap.size 88 4 v (scanAll xs).1.length (toksC (scanAll xs).1) ∧ Below w.heap.size w w' := by
  have hml : xs.length ≤ maxLen := by unfold maxLen; omega
  have hsk := skip_any b o cap xs 0 (w.alloc (.cells #[.int .i64 0, .int .i64 0] 31)) (hs.below hb ((Below.refl _ _).alloc (Nat.le_refl _) _)) hml (Nat.zero_le _)
  have HK : Box _ := ⟨hsk⟩
  have h0 := (skipTo_le xs 0 (Nat.zero_le _)).2
  have hst : ScanInv w xs (xs.length + 1) (skipTo xs 0) [] := ⟨by unfold scanAll; rw [if_neg (by omega)], by omega, Nat.zero_le _⟩
  generalize skipTo xs 0 = k0 at *
  clear hsk
  obtain ⟨i0, hi, hz0, hz1, hz2⟩ := info_parts info40
  go_enter Tryd.func61, Tryd.ntmps61
  go_wp2_with (first | (go_at_call 64; refine Calls.mono HK.out ?_; rintro e w' ⟨rfl, rfl⟩))
  go_loopw [4, 5] (fun v i wr => ∃ f k : Nat, ∃ acc : List Tok, k ≤ xs.length ∧ i = .int .i64 k ∧ wr.ownsRow (w.heap.size + 1) 88 4 v acc.length (toksC acc) ∧ ScanMem w wr ∧ ScanInv w xs f k acc)
    (fun _ i _ => xs.length - (intOf i).toNat)
  case atStart => exact ⟨xs.length + 1, k0, [], h0, rfl, World.ownsRow_nil _ _ _ _, Below.refl _ _, hst⟩
  case round =>
    obtain ⟨f, k, acc, hk, rfl, hown, HB, HE⟩ := hrel
    by_cases hlt : k < xs.length
    · have hsz := HB.below.size
      have HN : Box _ := ⟨next_any b o cap xs k wr (hs.below hb HB.below) (by omega) hl hcap hlt (hL.below HB.below)⟩
      have hlen := nextR_len xs k hlt
      generalize hr : nextR xs k = r at *
      by_cases he : r.2 = 0
      · have hlen := hlen he
        have hnx : f ≠ 0 := by have := HE.fuel; omega
        obtain ⟨f, rfl⟩ : ∃ f', f = f' + 1 := ⟨f - 1, by omega⟩
        have hskl := skipTo_le xs (k + r.1.len) hlen.2
        have HE' : ScanInv w xs f (skipTo xs (k + r.1.len)) (acc ++ [r.1]) := by
          refine ⟨?_, ?_, ?_⟩
          · rw [HE.eq, scanGo, if_pos hlt, hr, if_pos he]
          · have := HE.fuel; omega
          · have := HE.few; simp; omega
        have HSK : Box (∀ w2, Below w.heap.size w w2 → Calls Tryd.prog 64 #[.slice (some ⟨b, o, none⟩) xs.length cap, .int .i64 ((k : Int) + (r.1.len : Int))] w2 fun e w' => e = .returned (.int .i64 (skipTo xs (k + r.1.len))) ∧ w2 = w') :=
          ⟨fun w2 h2 => skip_any b o cap xs (k + r.1.len) w2 (hs.below hb h2) hml hlen.2⟩
        generalize skipTo xs (k + r.1.len) = k' at *
        have hec : ((r.2 : Int) != 0) = false := by rw [he]; rfl
        have hfew := HE.few
        clear HE hr he hs hL HK hst h0
        obtain ⟨hlen1, hlen2⟩ := hlen
        go_wp2_with (first | (go_at_call 65; refine Calls.mono HN.out ?_; rintro e w1 ⟨rfl, hb1⟩; unfold tokV) | (at_builtin; refine wpList_append_lies _ rfl (.tmp 29) (.tmp 31) 83 rfl (w.heap.size + 1) 88 i0 (.agg #[.int .i64 0, .int .i64 0, .int .i64 0, .int .i64 0]) 4 32 Tryd.underlying83 hi hz0 hz1 hz2 rfl (by omega) _ acc.length (toksC acc) rfl (owns_below (owns_below hown hb1) (two_below w1 _ _)) ⟨w1.heap.size + 1, 0, none⟩ 1 1 (tokC r.1) rfl rfl (news_at w1 _ r.1) (tokC_one r.1) (by omega) (by unfold maxLen; omega) (by omega) (by have := Below.size HB; have := hb1.size; simp at *; omega) (w1.heap.size + 2) (by simp) ?_; intro g cp w2 hown2 hgrow hat hlt2; obtain ⟨HB2, hc2⟩ := scan_step hown HB hb1 hgrow; clear hgrow hat hlt2) | (go_at_call 64; refine Calls.mono (HSK.out _ HB2.below) ?_; rintro e w' ⟨rfl, rfl⟩))
        go_roundw
        case rel => exact ⟨f, k', acc ++ [r.1], hskl.2, rfl, by rw [toksC_snoc]; simpa using hown2, HB2, HE'⟩
        case measure => simp [intOf]; omega
      · have hec : ((r.2 : Int) != 0) = true := by rw [bne_iff_ne]; omega
        obtain ⟨f, rfl⟩ : ∃ f', f = f' + 1 := ⟨f - 1, by have := HE.fuel; omega⟩
        have HA : Box (scanAll xs = ([], k, r.2)) := ⟨by rw [HE.eq, scanGo, if_pos hlt, hr, if_neg he]⟩
        have HF := fault_cells HB
        clear HE hr he hs hL HK hst h0 hown hlen
        go_wp2_with (first | (go_at_call 65; refine Calls.mono HN.out ?_; rintro e w1 ⟨rfl, hb1⟩; obtain ⟨p0, p1, p2, p3, p4⟩ := HF w1 hb1; unfold tokV))
        refine bodyPost_ret (v := .tuple #[.slice none 0 0, .agg #[.int .i64 k, .int .i64 r.2]]) (by simp [results, Tryd.results61, go_sem, p0, p1, p4]) rfl ⟨.slice none 0 0, by rw [HA.out], by rw [HA.out]; exact World.ownsRow_nil _ _ _ _, ?_⟩
        exact ((((HB.below.trans (hb1.mono (by omega))).setCell (Nat.le_refl _) _).setCell (Nat.le_refl _) _).alloc (by simp; omega) _)
    · obtain ⟨f, rfl⟩ : ∃ f', f = f' + 1 := ⟨f - 1, by have := HE.fuel; omega⟩
      have HA : Box (scanAll xs = (acc, 0, 0)) := ⟨by rw [HE.eq, scanGo, if_neg hlt]⟩
      have hwr : Below wr.heap.size wr wr := Below.refl _ _
      obtain ⟨p0, p1, p2, p3, p4⟩ := fault_cells HB wr hwr
      clear HE hs hL HK hst h0 hwr
      go_wp2
      refine bodyPost_ret (v := .tuple #[u4, .agg #[.int .i64 0, .int .i64 0]]) (by simp [results, Tryd.results61, go_sem, p0, p1]) rfl ⟨u4, by rw [HA.out]; rfl, by rw [HA.out]; exact owns_fault hown, ?_⟩
      exact (HB.below.setCell (Nat.le_refl _) _).setCell (Nat.le_refl _) _
end Go.Proofs.YtjjbgbadkbomlaaDoor
namespace Go.Proofs.YtjjbgbadkbomlaaDoor
open Go.RowKit
set_option linter.unusedVariables false
set_option linter.unusedSimpArgs false

/-- a slice of bytes: nil, or of none, or with its bytes -/
structure IsSrc (w : World) (a : Option Addr) (cap : Nat) (xs : List UInt8) : Prop where
  at_ : 0 < xs.length → ∃ b o, a = some ⟨b, o, none⟩ ∧ b < w.heap.size ∧ Src w b o xs
  cap_ : xs.length ≤ cap
  max_ : xs.length ≤ maxLen
theorem IsSrc.below {w w' : World} {a : Option Addr} {cap : Nat} {xs : List UInt8} (h : IsSrc w a cap xs) (hb : Below w.heap.size w w') : IsSrc w' a cap xs := by
  refine ⟨fun h0 => ?_, h.cap_, h.max_⟩
  obtain ⟨b, o, h1, h2, h3⟩ := h.at_ h0
  exact ⟨b, o, h1, by have := hb.size; omega, h3.below h2 hb⟩

set_option maxRecDepth 100000 in
set_option maxHeartbeats 400000 in
theorem Scan_long (a : Option Addr) (n cap : Nat) (w : World) (hn : 65536 < n) (hm : n ≤ maxLen) :
    Calls Tryd.prog 61 #[.slice a n cap] w fun e w' => e = .returned (.tuple #[.slice none 0 0, .agg #[.int .i64 65536, .int .i64 10]]) ∧ Below w.heap.size w w' := by
  unfold maxLen at hm
  have h1 : (65536 : Int) < (n : Int) := by omega
  go_enter Tryd.func61, Tryd.ntmps61
  go_wp2
  refine bodyPost_ret (v := .tuple #[.slice none 0 0, .agg #[.int .i64 65536, .int .i64 10]]) (by simp [results, Tryd.results61, go_sem]) rfl ⟨rfl, ?_⟩
  exact (Below.refl _ _).alloc (Nat.le_refl _) _

set_option maxRecDepth 100000 in
set_option maxHeartbeats 400000 in
theorem Scan_none (a : Option Addr) (cap : Nat) (w : World) :
    Calls Tryd.prog 61 #[.slice a 0 cap] w fun e w' => e = .returned (.tuple #[.slice none 0 0, .agg #[.int .i64 0, .int .i64 0]]) ∧ Below w.heap.size w w' := by
  go_enter Tryd.func61, Tryd.ntmps61
  go_wp2_with (first | (go_at_call 64; refine (skip_none _ _ _).mono ?_; rintro e w' ⟨rfl, rfl⟩))
  go_loopw [4, 5] (fun v i wr => v = .slice none 0 0 ∧ i = .int .i64 0 ∧ wr = w.alloc (.cells #[.int .i64 0, .int .i64 0] 31)) (fun _ _ _ => 0)
  case atStart => exact ⟨rfl, rfl, rfl⟩
  case round =>
    obtain ⟨rfl, rfl, rfl⟩ := hrel
    go_wp2
    refine bodyPost_ret (v := .tuple #[.slice none 0 0, .agg #[.int .i64 0, .int .i64 0]]) (by simp [results, Tryd.results61, go_sem]) rfl ⟨rfl, ?_⟩
    exact (Below.refl _ _).alloc (Nat.le_refl _) _

/-- **scan.Scan**, whatever bytes it is given -/
theorem Scan_any (a : Option Addr) (cap : Nat) (xs : List UInt8) (w : World) (hs : IsSrc w a cap xs) (hL : Laid w) :
    Calls Tryd.prog 61 #[.slice a xs.length cap] w fun e w' => ∃ v, e = .returned (.tuple #[v, .agg #[.int .i64 (scanAll xs).2.1, .int .i64 (scanAll xs).2.2]]) ∧ w'.ownsRow w.heap.size 88 4 v (scanAll xs).1.length (toksC (scanAll xs).1) ∧ Below w.heap.size w w' := by
  by_cases h1 : 65536 < xs.length
  · have hA : scanAll xs = ([], 65536, 10) := by unfold scanAll; rw [if_pos h1]
    rw [hA]
    refine (Scan_long a xs.length cap w h1 hs.max_).mono ?_
    rintro e w' ⟨rfl, hb⟩
    exact ⟨.slice none 0 0, rfl, World.ownsRow_nil _ _ _ _, hb⟩
  · by_cases h0 : 0 < xs.length
    · obtain ⟨b, o, rfl, hb, hc⟩ := hs.at_ h0
      exact Scan_some b o cap xs w hc hb (by omega) hs.cap_ hL
    · have hx : xs = [] := List.eq_nil_of_length_eq_zero (by omega)
      subst hx
      have hA : scanAll [] = ([], 0, 0) := rfl
      rw [hA]
      refine (Scan_none a cap w).mono ?_
      rintro e w' ⟨rfl, hb⟩
      exact ⟨.slice none 0 0, rfl, World.ownsRow_nil _ _ _ _, hb⟩

end Go.Proofs.YtjjbgbadkbomlaaDoor
