import Derived.Test.YtecodpdfckjalaaGreatDoorCSign
import Derived.Deep.AppendLies
namespace Go.Proofs.YtecodpdfckjalaaGreatDoor
open Go.RowKit
set_option linter.unusedVariables false
set_option linter.unusedSimpArgs false

/-- the tables and the error stand where they were laid -/
structure Laid (w : World) : Prop where
  words : TabAt w 1 wordsT
  signs : TabAt w 0 signsT
  range : ∃ te pe, w.cell? ⟨4, 0, none⟩ = some (.iface te pe)
  size : 4 < w.heap.size
theorem Laid.below {w w' : World} (h : Laid w) (hb : Below w.heap.size w w') : Laid w' := by
  have h3 := h.size
  refine ⟨h.words.below (by omega) hb, h.signs.below (by omega) hb, ?_, by have := hb.size; omega⟩
  obtain ⟨te, pe, hc⟩ := h.range
  exact ⟨te, pe, by rw [hb.cell (by exact h3)]; exact hc⟩

/-- the token that stands at k -/
def nextR (xs : List UInt8) (k : Nat) : Tok × Nat :=
  if wsI ((xs.getD k 0).toNat : Int) = true then wordR xs k else if digI ((xs.getD k 0).toNat : Int) = true then numR xs k else signR xs k

def z4 : Obj := .cells #[.int .i64 0, .int .i64 0, .int .i64 0, .int .i64 0] 62

set_option maxHeartbeats 400000 in
theorem next_word (b o cap : Nat) (n k : Nat) (w : World) (c : Int) (t : Tok) (e0 : Int) (hc : w.cell? ⟨b, o + k, none⟩ = some (.int .u8 c)) (hb : b < w.heap.size) (hl : n ≤ 65536) (hk : k < n) (hw : wsI c = true)
    (HC : Box (∀ o', Calls Tryz.prog 62 #[.slice (some ⟨b, o, none⟩) n cap, .int .i64 k] (w.alloc o') fun e w' => e = .returned (.tuple #[tokV t, .int .i64 e0]) ∧ Below (w.alloc o').heap.size (w.alloc o') w')) :
    Calls Tryz.prog 36 #[.slice (some ⟨b, o, none⟩) n cap, .int .i64 k] w fun e w' => e = .returned (.tuple #[tokV t, .int .i64 e0]) ∧ Below w.heap.size w w' := by
  go_enter Tryz.func36, Tryz.ntmps36
  go_wp2_with (first | (go_at_call 61; refine (isWordStart_any _ _).mono ?_; rintro e w' ⟨rfl, rfl⟩) | (go_at_call 62; refine Calls.mono (HC.out _) ?_; rintro e w1 ⟨rfl, hb1⟩; obtain ⟨hcc, hff⟩ := bcell hb1; have hsz : w.heap.size < w1.heap.size := (by have := hb1.size; simp at this; omega); unfold tokV))
  refine bodyPost_ret (v := .tuple #[tokV t, .int .i64 e0]) (by simp [results, Tryz.results36, go_sem, tokV, hcc, hsz]) rfl ⟨rfl, ?_⟩
  exact ((((((Below.refl _ _).alloc (Nat.le_refl _) _).trans (hb1.mono (by simp))).setCell (Nat.le_refl _) _).setCell (Nat.le_refl _) _).setCell (Nat.le_refl _) _).setCell (Nat.le_refl _) _
set_option maxHeartbeats 400000 in
theorem next_num (b o cap : Nat) (n k : Nat) (w : World) (c : Int) (t : Tok) (e0 : Int) (hc : w.cell? ⟨b, o + k, none⟩ = some (.int .u8 c)) (hb : b < w.heap.size) (hl : n ≤ 65536) (hk : k < n) (hw : wsI c = false) (hd : digI c = true)
    (HC : Box (∀ o', Calls Tryz.prog 64 #[.slice (some ⟨b, o, none⟩) n cap, .int .i64 k] (w.alloc o') fun e w' => e = .returned (.tuple #[tokV t, .int .i64 e0]) ∧ Below (w.alloc o').heap.size (w.alloc o') w')) :
    Calls Tryz.prog 36 #[.slice (some ⟨b, o, none⟩) n cap, .int .i64 k] w fun e w' => e = .returned (.tuple #[tokV t, .int .i64 e0]) ∧ Below w.heap.size w w' := by
  go_enter Tryz.func36, Tryz.ntmps36
  go_wp2_with (first | (go_at_call 63; refine (isDigit_any _ _).mono ?_; rintro e w' ⟨rfl, rfl⟩) | (go_at_call 61; refine (isWordStart_any _ _).mono ?_; rintro e w' ⟨rfl, rfl⟩) | (go_at_call 64; refine Calls.mono (HC.out _) ?_; rintro e w1 ⟨rfl, hb1⟩; obtain ⟨hcc, hff⟩ := bcell hb1; have hsz : w.heap.size < w1.heap.size := (by have := hb1.size; simp at this; omega); unfold tokV))
  refine bodyPost_ret (v := .tuple #[tokV t, .int .i64 e0]) (by simp [results, Tryz.results36, go_sem, tokV, hcc, hsz]) rfl ⟨rfl, ?_⟩
  exact ((((((Below.refl _ _).alloc (Nat.le_refl _) _).trans (hb1.mono (by simp))).setCell (Nat.le_refl _) _).setCell (Nat.le_refl _) _).setCell (Nat.le_refl _) _).setCell (Nat.le_refl _) _
set_option maxHeartbeats 400000 in
theorem next_sign (b o cap : Nat) (n k : Nat) (w : World) (c : Int) (t : Tok) (e0 : Int) (hc : w.cell? ⟨b, o + k, none⟩ = some (.int .u8 c)) (hb : b < w.heap.size) (hl : n ≤ 65536) (hk : k < n) (hw : wsI c = false) (hd : digI c = false)
    (HC : Box (∀ o', Calls Tryz.prog 65 #[.slice (some ⟨b, o, none⟩) n cap, .int .i64 k] (w.alloc o') fun e w' => e = .returned (.tuple #[tokV t, .int .i64 e0]) ∧ Below (w.alloc o').heap.size (w.alloc o') w')) :
    Calls Tryz.prog 36 #[.slice (some ⟨b, o, none⟩) n cap, .int .i64 k] w fun e w' => e = .returned (.tuple #[tokV t, .int .i64 e0]) ∧ Below w.heap.size w w' := by
  go_enter Tryz.func36, Tryz.ntmps36
  go_wp2_with (first | (go_at_call 63; refine (isDigit_any _ _).mono ?_; rintro e w' ⟨rfl, rfl⟩) | (go_at_call 61; refine (isWordStart_any _ _).mono ?_; rintro e w' ⟨rfl, rfl⟩) | (go_at_call 65; refine Calls.mono (HC.out _) ?_; rintro e w1 ⟨rfl, hb1⟩; obtain ⟨hcc, hff⟩ := bcell hb1; have hsz : w.heap.size < w1.heap.size := (by have := hb1.size; simp at this; omega); unfold tokV))
  refine bodyPost_ret (v := .tuple #[tokV t, .int .i64 e0]) (by simp [results, Tryz.results36, go_sem, tokV, hcc, hsz]) rfl ⟨rfl, ?_⟩
  exact ((((((Below.refl _ _).alloc (Nat.le_refl _) _).trans (hb1.mono (by simp))).setCell (Nat.le_refl _) _).setCell (Nat.le_refl _) _).setCell (Nat.le_refl _) _).setCell (Nat.le_refl _) _

theorem next_any (b o cap : Nat) (xs : List UInt8) (k : Nat) (w : World) (hs : Src w b o xs) (hb : b < w.heap.size) (hl : xs.length ≤ 65536) (hcap : xs.length ≤ cap) (hk : k < xs.length) (hL : Laid w) :
    Calls Tryz.prog 36 #[.slice (some ⟨b, o, none⟩) xs.length cap, .int .i64 k] w fun e w' => e = .returned (.tuple #[tokV (nextR xs k).1, .int .i64 (nextR xs k).2]) ∧ Below w.heap.size w w' := by
  have hml : xs.length ≤ maxLen := by unfold maxLen; omega
  have hbl : ∀ o', Below w.heap.size w (w.alloc o') := fun o' => (Below.refl _ _).alloc (Nat.le_refl _) _
  have hc : w.cell? ⟨b, o + k, none⟩ = some (.int .u8 ((xs.getD k 0).toNat : Int)) := by
    rw [hs k hk]; simp [List.getD, hk]
  have hg : xs.getD k 0 = xs[k] := by simp [List.getD, hk]
  have hR : nextR xs k = if wsI ((xs.getD k 0).toNat : Int) = true then wordR xs k else if digI ((xs.getD k 0).toNat : Int) = true then numR xs k else signR xs k := rfl
  have hb' : ∀ o', b < (w.alloc o').heap.size := fun o' => by have := (hbl o').size; omega
  cases hw : wsI ((xs.getD k 0).toNat : Int)
  · rw [if_neg (by rw [hw]; simp)] at hR
    cases hd : digI ((xs.getD k 0).toNat : Int)
    · rw [if_neg (by rw [hd]; simp)] at hR
      rw [hR]
      refine next_sign b o cap xs.length k w _ _ _ hc hb hl hk hw hd ⟨fun o' => ?_⟩
      have hL' := hL.below (hbl o')
      have := hL'.size
      exact sign_loop b o cap xs k _ (hs.below hb (hbl o')) (hb' o') hml hcap hk hL'.signs (by omega)
    · rw [if_pos hd] at hR
      rw [hR]
      refine next_num b o cap xs.length k w _ _ _ hc hb hl hk hw hd ⟨fun o' => ?_⟩
      have hL' := hL.below (hbl o')
      obtain ⟨te, pe, h3⟩ := hL'.range
      refine number_any b o cap xs k _ (hs.below hb (hbl o')) (hb' o') hl hcap ?_ te pe hL'.size h3
      rw [spanTo_yes _ _ _ hk (by rw [← hg]; exact hd)]
      have := (spanTo_le digI xs (k + 1) (by omega)).1
      omega
  · rw [if_pos hw] at hR
    rw [hR]
    refine next_word b o cap xs.length k w _ _ _ hc hb hl hk hw ⟨fun o' => ?_⟩
    have hL' := hL.below (hbl o')
    have := hL'.size
    refine word_any b o cap xs k _ (hs.below hb (hbl o')) (hb' o') hml hcap ?_ hL'.words (by omega)
    rw [spanTo_yes _ _ _ hk (by rw [← hg]; unfold wbI; rw [hw]; rfl)]
    have := (spanTo_le wbI xs (k + 1) (by omega)).1
    omega

theorem prefix_len (s l : List UInt8) (h : s.isPrefixOf l = true) : s.length ≤ l.length := (List.isPrefixOf_iff_prefix.1 h).length_le
theorem bestFrom_le (l : List UInt8) : ∀ (T : List (List UInt8)) (n : Nat) (acc : Nat × Nat), acc.2 ≤ l.length → (bestFrom T n acc l).2 ≤ l.length
  | [], n, acc, h => h
  | s :: r, n, acc, h => by
    simp only [bestFrom]
    apply bestFrom_le l r
    by_cases hc : acc.2 < s.length ∧ s.isPrefixOf l = true
    · rw [if_pos hc]; exact prefix_len s l hc.2
    · rw [if_neg hc]; exact h

theorem nextR_len (xs : List UInt8) (k : Nat) (hk : k < xs.length) (h : (nextR xs k).2 = 0) : 1 ≤ (nextR xs k).1.len ∧ k + (nextR xs k).1.len ≤ xs.length := by
  have hg : xs.getD k 0 = xs[k] := by simp [List.getD, hk]
  have hR : nextR xs k = if wsI ((xs.getD k 0).toNat : Int) = true then wordR xs k else if digI ((xs.getD k 0).toNat : Int) = true then numR xs k else signR xs k := rfl
  cases hw : wsI ((xs.getD k 0).toNat : Int)
  · rw [if_neg (by rw [hw]; simp)] at hR
    cases hd : digI ((xs.getD k 0).toNat : Int)
    · rw [if_neg (by rw [hd]; simp)] at hR
      rw [hR] at h ⊢
      have hle := bestFrom_le (xs.drop k) signsT 40 (0, 0) (Nat.zero_le _)
      simp only [List.length_drop] at hle
      unfold signR at h ⊢
      by_cases h0 : (bestS (xs.drop k)).2 = 0
      · rw [if_pos h0] at h; simp at h
      · rw [if_neg h0]
        unfold bestS at h0 ⊢
        exact ⟨by simp only; omega, by simp only; omega⟩
    · rw [if_pos hd] at hR
      rw [hR] at h ⊢
      have h1 : k < spanTo digI xs k := by
        rw [spanTo_yes _ _ _ hk (by rw [← hg]; exact hd)]
        have := (spanTo_le digI xs (k + 1) (by omega)).1
        omega
      have h2 := (spanTo_le digI xs k (by omega)).2
      unfold numR at h ⊢
      generalize spanTo digI xs k = E at *
      split at h
      · simp at h
      · rename_i n1
        split at h
        · simp at h
        · rename_i n2
          split at h
          · rename_i n3
            rw [if_neg n1, if_neg n2, if_pos n3]
            exact ⟨by simp only; omega, by simp only; omega⟩
          · simp at h
  · rw [if_pos hw] at hR
    rw [hR] at h ⊢
    have h1 : k < spanTo wbI xs k := by
      rw [spanTo_yes _ _ _ hk (by rw [← hg]; unfold wbI; rw [hw]; rfl)]
      have := (spanTo_le wbI xs (k + 1) (by omega)).1
      omega
    have h2 := (spanTo_le wbI xs k (by omega)).2
    unfold wordR at h ⊢
    generalize spanTo wbI xs k = E at *
    split at h
    · rename_i n1
      rw [if_pos n1]
      exact ⟨by simp only; omega, by simp only; omega⟩
    · rename_i n1
      split at h
      · simp at h
      · rename_i n2
        rw [if_neg n1, if_neg n2]
        exact ⟨by simp only; omega, by simp only; omega⟩
end Go.Proofs.YtecodpdfckjalaaGreatDoor
namespace Go.Proofs.YtecodpdfckjalaaGreatDoor
open Go.RowKit
set_option linter.unusedVariables false
set_option linter.unusedSimpArgs false

/-- what is scanned from k on, with what stood ahead -/
def scanGo : Nat → List UInt8 → Nat → List Tok → List Tok × Nat × Nat
  | 0, _, _, acc => (acc, 0, 0)
  | f + 1, xs, k, acc =>
    if k < xs.length then
      (if (nextR xs k).2 = 0 then scanGo f xs (skipTo xs (k + (nextR xs k).1.len)) (acc ++ [(nextR xs k).1]) else ([], k, (nextR xs k).2))
    else (acc, 0, 0)
/-- THE TOKENS OF A SOURCE; where it is wrong, and how -/
def scanAll (xs : List UInt8) : List Tok × Nat × Nat := if 65536 < xs.length then ([], 65536, 10) else scanGo (xs.length + 1) xs (skipTo xs 0) []

def toksC (l : List Tok) : List Value := l.flatMap tokC
theorem toksC_len (l : List Tok) : (toksC l).length = l.length * 4 := by
  induction l with
  | nil => rfl
  | cons t r ih => unfold toksC at *; simp only [List.flatMap_cons, List.length_append, List.length_cons, ih]; simp [tokC]; omega
theorem toksC_snoc (l : List Tok) (t : Tok) : toksC (l ++ [t]) = toksC l ++ tokC t := by
  unfold toksC; simp

theorem info40 : (Tryz.prog.info? 62).map (fun i => (i.zero, i.size, i.bytes)) = some (some (.agg #[.int .i64 0, .int .i64 0, .int .i64 0, .int .i64 0]), 4, 32) := by kernel_rfl

/-- what holds ahead of a round -/
structure ScanInv (w : World) (xs : List UInt8) (f k : Nat) (acc : List Tok) : Prop where
  eq : scanAll xs = scanGo f xs k acc
  fuel : xs.length - k < f
  few : acc.length ≤ k
def ScanMem (w wr : World) : Prop := Below (w.heap.size + 1) (w.alloc (.cells #[.int .i64 0, .int .i64 0] 30)) wr
theorem ScanMem.below {w wr : World} (h : ScanMem w wr) : Below w.heap.size w wr :=
  ((Below.refl w.heap.size w).alloc (Nat.le_refl _) _).trans (Below.mono h (by omega))

theorem owns_below {w w' : World} {B : Nat} {e : TypeId} {s : Nat} {v : Value} {n : Nat} {cs : List Value} (h : w.ownsRow B e s v n cs) (hb : Below w.heap.size w w') : w'.ownsRow B e s v n cs := by
  obtain ⟨h1, h2⟩ := h
  refine ⟨h1, ?_⟩
  rcases h2 with h2 | ⟨g, cap, cur, hv, hg, hh, r⟩
  · exact .inl h2
  · refine .inr ⟨g, cap, cur, hv, hg, ?_, r⟩
    rw [hb.block g ?_]
    · exact hh
    · rcases Nat.lt_or_ge g w.heap.size with hlt | hge
      · exact hlt
      · rw [Array.getElem?_eq_none hge] at hh; cases hh
theorem owns_base {w : World} {B B' : Nat} {e : TypeId} {s : Nat} {v : Value} {n : Nat} {cs : List Value} (h : w.ownsRow B e s v n cs) (hb : B' ≤ B) : w.ownsRow B' e s v n cs := by
  obtain ⟨h1, h2⟩ := h
  refine ⟨h1, ?_⟩
  rcases h2 with h2 | ⟨g, cap, cur, hv, hg, r⟩
  · exact .inl h2
  · exact .inr ⟨g, cap, cur, hv, by omega, r⟩

/-- a token's block -/
def tokO (t : Tok) : Obj := .cells #[.int .i64 t.kind, .int .i64 t.place, .int .i64 t.len, .int .i64 t.num] 62
theorem news_at (w1 : World) (o1 : Obj) (t : Tok) : ∀ j u, (tokC t)[j]? = some u → ((w1.alloc o1).alloc (tokO t)).cell? ((⟨w1.heap.size + 1, 0, none⟩ : Addr).add j) = some u := by
  have h := heap_alloc_new (w1.alloc o1) (tokO t)
  have e : (w1.alloc o1).heap.size = w1.heap.size + 1 := by simp
  rw [e] at h
  exact World.news_of_block (cs := #[.int .i64 t.kind, .int .i64 t.place, .int .i64 t.len, .int .i64 t.num]) h
theorem tokC_one (t : Tok) : ∀ u ∈ tokC t, u.oneCell' = true := by
  intro u hu
  simp only [tokC, List.mem_cons, List.not_mem_nil, or_false] at hu
  rcases hu with rfl | rfl | rfl | rfl <;> rfl
theorem two_below (w1 : World) (o1 o2 : Obj) : Below w1.heap.size w1 ((w1.alloc o1).alloc o2) := ((Below.refl _ _).alloc (Nat.le_refl _) _).alloc (by simp) _

theorem scan_step {w wr w1 w2 : World} {u : Value} {n : Nat} {cs : List Value} {t : Tok} (hown : wr.ownsRow (w.heap.size + 1) 62 4 u n cs) (HB : ScanMem w wr) (hb1 : Below wr.heap.size wr w1)
    (hg : ((w1.alloc (tokO t)).alloc (tokO t)).grownBy w2 u.ownBlock) : ScanMem w w2 ∧ w2.cell? ⟨w1.heap.size, 2, none⟩ = some (.int .i64 t.len) := by
  have hz := Below.size HB
  simp at hz
  have hz1 := hb1.size
  refine ⟨?_, ?_⟩
  · refine Below.grown (Below.trans (Below.trans HB (hb1.mono (by omega))) ((two_below w1 _ _).mono (by omega))) hg (by simp; omega) ?_
    intro k hk
    exact (hown.lt k hk).1
  · rw [hg.cell_far _ (by simp; omega) (by intro e; have := (hown.lt _ e.symm).2; simp at this; omega)]
    simp [tokO]

theorem owns_fault {w wr : World} {u : Value} {n : Nat} {cs : List Value} {x y : Value} (h : wr.ownsRow (w.heap.size + 1) 62 4 u n cs) :
    ((wr.setCell ⟨w.heap.size, 0, none⟩ x).setCell ⟨w.heap.size, 1, none⟩ y).ownsRow w.heap.size 62 4 u n cs :=
  owns_base (ownsRow_setCell_below (ownsRow_setCell_below h (by simp) _) (by simp) _) (by omega)

/-- the place of the fault -/
theorem fault_cells {w wr : World} (HB : ScanMem w wr) : ∀ w1, Below wr.heap.size wr w1 → w1.cell? ⟨w.heap.size, 0, none⟩ = some (.int .i64 0) ∧ w1.cell? ⟨w.heap.size, 1, none⟩ = some (.int .i64 0) ∧ w1.frozen? ⟨w.heap.size, 0, none⟩ = false ∧ w1.frozen? ⟨w.heap.size, 1, none⟩ = false ∧ w.heap.size < w1.heap.size := by
  intro w1 hb1
  have hz1 := hb1.size
  have hz := Below.size HB
  simp at hz
  refine ⟨?_, ?_, ?_, ?_, by omega⟩
  · rw [hb1.cell (by simp; omega), Below.cell HB (by simp)]; simp
  · rw [hb1.cell (by simp; omega), Below.cell HB (by simp)]; simp
  · rw [hb1.frozen (by simp; omega), Below.frozen HB (by simp)]; simp
  · rw [hb1.frozen (by simp; omega), Below.frozen HB (by simp)]; simp

set_option maxRecDepth 100000 in
set_option maxHeartbeats 400000 in
theorem Scan_some (b o cap : Nat) (xs : List UInt8) (w : World) (hs : Src w b o xs) (hb : b < w.heap.size) (hl : xs.length ≤ 65536) (hcap : xs.length ≤ cap) (hL : Laid w) :
    Calls Tryz.prog 19 #[.slice (some ⟨b, o, none⟩) xs.length cap] w fun e w' => ∃ v, e = .returned (.tuple #[v, .agg #[.int .i64 (scanAll xs).2.1, .int .i64 (scanAll xs).2.2]]) ∧ w'.ownsRow w.heap.size 62 4 v (scanAll xs).1.length (toksC (scanAll xs).1) ∧ Below w.heap.size w w' := by
  have hml : xs.length ≤ maxLen := by unfold maxLen; omega
  have hsk := skip_any b o cap xs 0 (w.alloc (.cells #[.int .i64 0, .int .i64 0] 30)) (hs.below hb ((Below.refl _ _).alloc (Nat.le_refl _) _)) hml (Nat.zero_le _)
  have HK : Box _ := ⟨hsk⟩
  have h0 := (skipTo_le xs 0 (Nat.zero_le _)).2
  have hst : ScanInv w xs (xs.length + 1) (skipTo xs 0) [] := ⟨by unfold scanAll; rw [if_neg (by omega)], by omega, Nat.zero_le _⟩
  generalize skipTo xs 0 = k0 at *
  clear hsk
  obtain ⟨i0, hi, hz0, hz1, hz2⟩ := info_parts info40
  go_enter Tryz.func19, Tryz.ntmps19
  go_wp2_with (first | (go_at_call 35; refine Calls.mono HK.out ?_; rintro e w' ⟨rfl, rfl⟩))
  go_loopw [4, 5] (fun v i wr => ∃ f k : Nat, ∃ acc : List Tok, k ≤ xs.length ∧ i = .int .i64 k ∧ wr.ownsRow (w.heap.size + 1) 62 4 v acc.length (toksC acc) ∧ ScanMem w wr ∧ ScanInv w xs f k acc)
    (fun _ i _ => xs.length - (intOf i).toNat)
  case atStart => exact ⟨xs.length + 1, k0, [], h0, rfl, World.ownsRow_nil _ _ _ _, Below.refl _ _, hst⟩
  case round =>
    obtain ⟨f, k, acc, hk, rfl, hown, HB, HE⟩ := hrel
    by_cases hlt : k < xs.length
    · have hsz := HB.below.size
      have HN : Box _ := ⟨next_any b o cap xs k wr (hs.below hb HB.below) (by omega) hl hcap hlt (hL.below HB.below)⟩
      have hlen := nextR_len xs k hlt
      generalize hr : nextR xs k = r at *
      by_cases he : r.2 = 0
      · have hlen := hlen he
        have hnx : f ≠ 0 := by have := HE.fuel; omega
        obtain ⟨f, rfl⟩ : ∃ f', f = f' + 1 := ⟨f - 1, by omega⟩
        have hskl := skipTo_le xs (k + r.1.len) hlen.2
        have HE' : ScanInv w xs f (skipTo xs (k + r.1.len)) (acc ++ [r.1]) := by
          refine ⟨?_, ?_, ?_⟩
          · rw [HE.eq, scanGo, if_pos hlt, hr, if_pos he]
          · have := HE.fuel; omega
          · have := HE.few; simp; omega
        have HSK : Box (∀ w2, Below w.heap.size w w2 → Calls Tryz.prog 35 #[.slice (some ⟨b, o, none⟩) xs.length cap, .int .i64 ((k : Int) + (r.1.len : Int))] w2 fun e w' => e = .returned (.int .i64 (skipTo xs (k + r.1.len))) ∧ w2 = w') :=
          ⟨fun w2 h2 => skip_any b o cap xs (k + r.1.len) w2 (hs.below hb h2) hml hlen.2⟩
        generalize skipTo xs (k + r.1.len) = k' at *
        have hec : ((r.2 : Int) != 0) = false := by rw [he]; rfl
        have hfew := HE.few
        clear HE hr he hs hL HK hst h0
        obtain ⟨hlen1, hlen2⟩ := hlen
        go_wp2_with (first | (go_at_call 36; refine Calls.mono HN.out ?_; rintro e w1 ⟨rfl, hb1⟩; unfold tokV) | (at_builtin; refine wpList_append_lies _ rfl (.tmp 29) (.tmp 31) 56 rfl (w.heap.size + 1) 62 i0 (.agg #[.int .i64 0, .int .i64 0, .int .i64 0, .int .i64 0]) 4 32 Tryz.underlying56 hi hz0 hz1 hz2 rfl (by omega) _ acc.length (toksC acc) rfl (owns_below (owns_below hown hb1) (two_below w1 _ _)) ⟨w1.heap.size + 1, 0, none⟩ 1 1 (tokC r.1) rfl rfl (news_at w1 _ r.1) (tokC_one r.1) (by omega) (by unfold maxLen; omega) (by omega) (by have := Below.size HB; have := hb1.size; simp at *; omega) (w1.heap.size + 2) (by simp) ?_; intro g cp w2 hown2 hgrow hat hlt2; obtain ⟨HB2, hc2⟩ := scan_step hown HB hb1 hgrow; clear hgrow hat hlt2) | (go_at_call 35; refine Calls.mono (HSK.out _ HB2.below) ?_; rintro e w' ⟨rfl, rfl⟩))
        go_roundw
        case rel => exact ⟨f, k', acc ++ [r.1], hskl.2, rfl, by rw [toksC_snoc]; simpa using hown2, HB2, HE'⟩
        case measure => simp [intOf]; omega
      · have hec : ((r.2 : Int) != 0) = true := by rw [bne_iff_ne]; omega
        obtain ⟨f, rfl⟩ : ∃ f', f = f' + 1 := ⟨f - 1, by have := HE.fuel; omega⟩
        have HA : Box (scanAll xs = ([], k, r.2)) := ⟨by rw [HE.eq, scanGo, if_pos hlt, hr, if_neg he]⟩
        have HF := fault_cells HB
        clear HE hr he hs hL HK hst h0 hown hlen
        go_wp2_with (first | (go_at_call 36; refine Calls.mono HN.out ?_; rintro e w1 ⟨rfl, hb1⟩; obtain ⟨p0, p1, p2, p3, p4⟩ := HF w1 hb1; unfold tokV))
        refine bodyPost_ret (v := .tuple #[.slice none 0 0, .agg #[.int .i64 k, .int .i64 r.2]]) (by simp [results, Tryz.results19, go_sem, p0, p1, p4]) rfl ⟨.slice none 0 0, by rw [HA.out], by rw [HA.out]; exact World.ownsRow_nil _ _ _ _, ?_⟩
        exact ((((HB.below.trans (hb1.mono (by omega))).setCell (Nat.le_refl _) _).setCell (Nat.le_refl _) _).alloc (by simp; omega) _)
    · obtain ⟨f, rfl⟩ : ∃ f', f = f' + 1 := ⟨f - 1, by have := HE.fuel; omega⟩
      have HA : Box (scanAll xs = (acc, 0, 0)) := ⟨by rw [HE.eq, scanGo, if_neg hlt]⟩
      have hwr : Below wr.heap.size wr wr := Below.refl _ _
      obtain ⟨p0, p1, p2, p3, p4⟩ := fault_cells HB wr hwr
      clear HE hs hL HK hst h0 hwr
      go_wp2
      refine bodyPost_ret (v := .tuple #[u4, .agg #[.int .i64 0, .int .i64 0]]) (by simp [results, Tryz.results19, go_sem, p0, p1]) rfl ⟨u4, by rw [HA.out]; rfl, by rw [HA.out]; exact owns_fault hown, ?_⟩
      exact (HB.below.setCell (Nat.le_refl _) _).setCell (Nat.le_refl _) _
end Go.Proofs.YtecodpdfckjalaaGreatDoor
namespace Go.Proofs.YtecodpdfckjalaaGreatDoor
open Go.RowKit
set_option linter.unusedVariables false
set_option linter.unusedSimpArgs false

/-- a slice of bytes: nil, or of none, or with its bytes -/
structure IsSrc (w : World) (a : Option Addr) (cap : Nat) (xs : List UInt8) : Prop where
  at_ : 0 < xs.length → ∃ b o, a = some ⟨b, o, none⟩ ∧ b < w.heap.size ∧ Src w b o xs
  cap_ : xs.length ≤ cap
  max_ : xs.length ≤ maxLen
theorem IsSrc.below {w w' : World} {a : Option Addr} {cap : Nat} {xs : List UInt8} (h : IsSrc w a cap xs) (hb : Below w.heap.size w w') : IsSrc w' a cap xs := by
  refine ⟨fun h0 => ?_, h.cap_, h.max_⟩
  obtain ⟨b, o, h1, h2, h3⟩ := h.at_ h0
  exact ⟨b, o, h1, by have := hb.size; omega, h3.below h2 hb⟩

set_option maxRecDepth 100000 in
set_option maxHeartbeats 400000 in
theorem Scan_long (a : Option Addr) (n cap : Nat) (w : World) (hn : 65536 < n) (hm : n ≤ maxLen) :
    Calls Tryz.prog 19 #[.slice a n cap] w fun e w' => e = .returned (.tuple #[.slice none 0 0, .agg #[.int .i64 65536, .int .i64 10]]) ∧ Below w.heap.size w w' := by
  unfold maxLen at hm
  have h1 : (65536 : Int) < (n : Int) := by omega
  go_enter Tryz.func19, Tryz.ntmps19
  go_wp2
  refine bodyPost_ret (v := .tuple #[.slice none 0 0, .agg #[.int .i64 65536, .int .i64 10]]) (by simp [results, Tryz.results19, go_sem]) rfl ⟨rfl, ?_⟩
  exact (Below.refl _ _).alloc (Nat.le_refl _) _

set_option maxRecDepth 100000 in
set_option maxHeartbeats 400000 in
theorem Scan_none (a : Option Addr) (cap : Nat) (w : World) :
    Calls Tryz.prog 19 #[.slice a 0 cap] w fun e w' => e = .returned (.tuple #[.slice none 0 0, .agg #[.int .i64 0, .int .i64 0]]) ∧ Below w.heap.size w w' := by
  go_enter Tryz.func19, Tryz.ntmps19
  go_wp2_with (first | (go_at_call 35; refine (skip_none _ _ _).mono ?_; rintro e w' ⟨rfl, rfl⟩))
  go_loopw [4, 5] (fun v i wr => v = .slice none 0 0 ∧ i = .int .i64 0 ∧ wr = w.alloc (.cells #[.int .i64 0, .int .i64 0] 30)) (fun _ _ _ => 0)
  case atStart => exact ⟨rfl, rfl, rfl⟩
  case round =>
    obtain ⟨rfl, rfl, rfl⟩ := hrel
    go_wp2
    refine bodyPost_ret (v := .tuple #[.slice none 0 0, .agg #[.int .i64 0, .int .i64 0]]) (by simp [results, Tryz.results19, go_sem]) rfl ⟨rfl, ?_⟩
    exact (Below.refl _ _).alloc (Nat.le_refl _) _

/-- **scan.Scan**, whatever bytes it is given -/
theorem Scan_any (a : Option Addr) (cap : Nat) (xs : List UInt8) (w : World) (hs : IsSrc w a cap xs) (hL : Laid w) :
    Calls Tryz.prog 19 #[.slice a xs.length cap] w fun e w' => ∃ v, e = .returned (.tuple #[v, .agg #[.int .i64 (scanAll xs).2.1, .int .i64 (scanAll xs).2.2]]) ∧ w'.ownsRow w.heap.size 62 4 v (scanAll xs).1.length (toksC (scanAll xs).1) ∧ Below w.heap.size w w' := by
  by_cases h1 : 65536 < xs.length
  · have hA : scanAll xs = ([], 65536, 10) := by unfold scanAll; rw [if_pos h1]
    rw [hA]
    refine (Scan_long a xs.length cap w h1 hs.max_).mono ?_
    rintro e w' ⟨rfl, hb⟩
    exact ⟨.slice none 0 0, rfl, World.ownsRow_nil _ _ _ _, hb⟩
  · by_cases h0 : 0 < xs.length
    · obtain ⟨b, o, rfl, hb, hc⟩ := hs.at_ h0
      exact Scan_some b o cap xs w hc hb (by omega) hs.cap_ hL
    · have hx : xs = [] := List.eq_nil_of_length_eq_zero (by omega)
      subst hx
      have hA : scanAll [] = ([], 0, 0) := rfl
      rw [hA]
      refine (Scan_none a cap w).mono ?_
      rintro e w' ⟨rfl, hb⟩
      exact ⟨.slice none 0 0, rfl, World.ownsRow_nil _ _ _ _, hb⟩

end Go.Proofs.YtecodpdfckjalaaGreatDoor
namespace Go.Proofs.YtecodpdfckjalaaGreatDoor
open Go.RowKit
set_option linter.unusedVariables false
set_option linter.unusedSimpArgs false

theorem owns_cells {w : World} {B : Nat} {e : TypeId} {s : Nat} {v : Value} {n : Nat} {cs : List Value} (h : w.ownsRow B e s v n cs) (hn : 0 < n) :
    ∃ g cap, v = .slice (some ⟨g, 0, none⟩) n cap ∧ B ≤ g ∧ g < w.heap.size ∧ n ≤ cap ∧ ∀ i, i < cs.length → w.cell? ⟨g, i, none⟩ = cs[i]? := by
  obtain ⟨h1, h2⟩ := h
  rcases h2 with ⟨_, h2⟩ | ⟨g, cap, cur, hv, hg, hh, hc, hm, hz, ht⟩
  · omega
  · refine ⟨g, cap, hv, hg, ?_, hc, fun i hi => ?_⟩
    · rcases Nat.lt_or_ge g w.heap.size with hlt | hge
      · exact hlt
      · rw [Array.getElem?_eq_none hge] at hh; cases hh
    · rw [cell_of_row w g i cur e (0, 0) hh, ← ht, List.getElem?_take_of_lt (by omega)]
      simp
theorem owns_none {w : World} {B : Nat} {e : TypeId} {s : Nat} {v : Value} {cs : List Value} (h : w.ownsRow B e s v 0 cs) : ∃ a cap, v = .slice a 0 cap := by
  obtain ⟨h1, h2⟩ := h
  rcases h2 with ⟨h2, _⟩ | ⟨g, cap, cur, hv, hg, hh, hc, hm, hz, ht⟩
  · exact ⟨_, _, h2⟩
  · exact ⟨_, _, hv⟩
theorem toksC_at : ∀ (l : List Tok) (j : Nat) (h : j < l.length), (toksC l)[j * 4]? = some (.int .i64 l[j].kind) ∧ (toksC l)[j * 4 + 1]? = some (.int .i64 l[j].place) ∧ (toksC l)[j * 4 + 2]? = some (.int .i64 l[j].len) ∧ (toksC l)[j * 4 + 3]? = some (.int .i64 l[j].num)
  | t :: r, 0, h => ⟨rfl, rfl, rfl, rfl⟩
  | t :: r, j + 1, h => by
    have ih := toksC_at r j (by simpa using h)
    have e : ∀ i, (toksC (t :: r))[i + 4]? = (toksC r)[i]? := fun i => rfl
    rw [show (j + 1) * 4 = j * 4 + 4 by omega, show j * 4 + 4 + 1 = j * 4 + 1 + 4 by omega, show j * 4 + 4 + 2 = j * 4 + 2 + 4 by omega, show j * 4 + 4 + 3 = j * 4 + 3 + 4 by omega, e, e, e, e]
    exact ih
/-- a list of tokens in memory -/
structure Toks (w : World) (g : Nat) (l : List Tok) : Prop where
  lt : g < w.heap.size
  at_ : ∀ j (h : j < l.length), w.cell? ⟨g, j * 4, none⟩ = some (.int .i64 l[j].kind) ∧ w.cell? ⟨g, j * 4 + 1, none⟩ = some (.int .i64 l[j].place) ∧ w.cell? ⟨g, j * 4 + 2, none⟩ = some (.int .i64 l[j].len) ∧ w.cell? ⟨g, j * 4 + 3, none⟩ = some (.int .i64 l[j].num)
theorem Toks.later {w w' : World} {g : Nat} {l : List Tok} (h : Toks w g l) (hb : Below w.heap.size w w') : Toks w' g l := by
  refine ⟨by have := hb.size; have := h.lt; omega, fun j hj => ?_⟩
  obtain ⟨a, b, c, d⟩ := h.at_ j hj
  exact ⟨by rw [hb.cell h.lt]; exact a, by rw [hb.cell h.lt]; exact b, by rw [hb.cell h.lt]; exact c, by rw [hb.cell h.lt]; exact d⟩
theorem toks_of_owns {w : World} {B : Nat} {v : Value} {l : List Tok} (h : w.ownsRow B 62 4 v l.length (toksC l)) (hn : 0 < l.length) :
    ∃ g cap, v = .slice (some ⟨g, 0, none⟩) l.length cap ∧ B ≤ g ∧ l.length ≤ cap ∧ Toks w g l := by
  obtain ⟨g, cap, hv, h1, h2, h3, hc⟩ := owns_cells h hn
  refine ⟨g, cap, hv, h1, h3, h2, fun j hj => ?_⟩
  have hl := toksC_len l
  obtain ⟨a, b, c, d⟩ := toksC_at l j hj
  exact ⟨by rw [hc _ (by omega)]; exact a, by rw [hc _ (by omega)]; exact b, by rw [hc _ (by omega)]; exact c, by rw [hc _ (by omega)]; exact d⟩
end Go.Proofs.YtecodpdfckjalaaGreatDoor
namespace Go.Proofs.YtecodpdfckjalaaGreatDoor
open Go.RowKit
set_option linter.unusedVariables false
set_option linter.unusedSimpArgs false

theorem kindFrom_at (T : List (List UInt8)) : ∀ (n : Nat) (t : List UInt8), kindFrom T n t = 0 ∨ ∃ i, i < T.length ∧ kindFrom T n t = n + i ∧ T.getD i [] = t := by
  induction T with
  | nil => intro n t; exact .inl rfl
  | cons x r ih =>
    intro n t
    simp only [kindFrom]
    split
    · rename_i h
      exact .inr ⟨0, by simp, rfl, by simpa using h⟩
    · rcases ih (n + 1) t with h | ⟨i, h1, h2, h3⟩
      · exact .inl h
      · exact .inr ⟨i + 1, by simp; omega, by omega, by simpa using h3⟩

theorem text_kind (k : Int) (h : textK k ≠ []) : (kindK (textK k) : Int) = k := by
  have hw : ∀ i : Fin 21, kindK (wordsT.getD i []) = 10 + i := by decide
  have hs : ∀ i : Fin 27, kindK (signsT.getD i []) = 40 + i := by decide
  unfold textK at h ⊢
  by_cases h1 : 10 ≤ k ∧ k < 31
  · rw [if_pos h1]
    have := hw ⟨(k - 10).toNat, by omega⟩
    simp only at this
    rw [this]
    omega
  · rw [if_neg h1] at h ⊢
    by_cases h2 : 40 ≤ k ∧ k < 67
    · rw [if_pos h2]
      have := hs ⟨(k - 40).toNat, by omega⟩
      simp only at this
      rw [this]
      omega
    · rw [if_neg h2] at h
      exact absurd rfl h

theorem kind_text (t : List UInt8) (h : kindK t ≠ 0) : textK (kindK t : Int) = t := by
  unfold kindK at h ⊢
  by_cases h1 : wordK t = 0
  · rw [if_pos h1] at h ⊢
    rcases kindFrom_at signsT 40 t with h0 | ⟨i, a1, a2, a3⟩
    · exact absurd h0 h
    · have a1 : i < 27 := a1
      have e : signK t = 40 + i := a2
      rw [e]
      unfold textK
      rw [if_neg (by omega), if_pos (by omega), show (((40 + i : Nat) : Int) - 40).toNat = i by omega]
      exact a3
  · rw [if_neg h1]
    rcases kindFrom_at wordsT 10 t with h0 | ⟨i, a1, a2, a3⟩
    · exact absurd h0 h1
    · have a1 : i < 21 := a1
      have e : wordK t = 10 + i := a2
      rw [e]
      unfold textK
      rw [if_pos (by omega), show (((10 + i : Nat) : Int) - 10).toNat = i by omega]
      exact a3

theorem Text_any (k : Int) (w : World) (ht : TabAt w 1 wordsT) (hs : TabAt w 0 signsT) :
    Calls Tryz.prog 83 #[.int .i64 k] w fun e w' => e = .returned (.string ⟨(textK k).toArray⟩) ∧ w = w' := by
  by_cases h1 : 10 ≤ k ∧ k < 31
  · obtain ⟨j, rfl⟩ : ∃ j : Nat, k = 10 + (j : Int) := ⟨(k - 10).toNat, by omega⟩
    have hj : j < 21 := by omega
    have HK : Hid (textK (10 + (j : Int)) = wordsT.getD j []) := by
      unfold textK Hid; rw [if_pos h1, show (10 + (j : Int) - 10).toNat = j by omega]
    have hc := ht j hj
    obtain ⟨h2, h3⟩ := h1
    go_enter Tryz.func83, Tryz.ntmps83
    go_wp2
    go_ret
    exact ⟨by rw [HK.out]; rfl, rfl⟩
  · by_cases h2 : 40 ≤ k ∧ k < 67
    · obtain ⟨j, rfl⟩ : ∃ j : Nat, k = 40 + (j : Int) := ⟨(k - 40).toNat, by omega⟩
      have hj : j < 27 := by omega
      have HK : Hid (textK (40 + (j : Int)) = signsT.getD j []) := by
        unfold textK Hid; rw [if_neg h1, if_pos h2, show (40 + (j : Int) - 40).toNat = j by omega]
      have hc := hs j hj
      have h4 : decide (40 + (j : Int) < 31) = false := by simp; omega
      have h5 : (10 : Int) ≤ 40 + (j : Int) := by omega
      clear h1
      obtain ⟨h2, h3⟩ := h2
      go_enter Tryz.func83, Tryz.ntmps83
      go_wp2
      go_ret
      exact ⟨by rw [HK.out]; rfl, rfl⟩
    · have HK : Hid (textK k = []) := by unfold textK Hid; rw [if_neg h1, if_neg h2]
      by_cases a1 : k < 10
      · go_enter Tryz.func83, Tryz.ntmps83
        go_wp2
        go_ret
        exact ⟨by rw [HK.out]; rfl, rfl⟩
      · by_cases a2 : k < 40
        · have a3 : 31 ≤ k := by omega
          clear h1 h2
          go_enter Tryz.func83, Tryz.ntmps83
          go_wp2
          go_ret
          exact ⟨by rw [HK.out]; rfl, rfl⟩
        · have a3 : 67 ≤ k := by omega
          clear h1 h2
          go_enter Tryz.func83, Tryz.ntmps83
          go_wp2
          go_ret
          exact ⟨by rw [HK.out]; rfl, rfl⟩
end Go.Proofs.YtecodpdfckjalaaGreatDoor
namespace Go.Proofs.YtecodpdfckjalaaGreatDoor

/-- a node: its kind, place, kids, name, number -/
structure Nd where
  kind : Int
  pos : Int
  kids : List Int
  name : ByteArray
  num : Int
def nd0 : Nd := ⟨0, 0, [], ⟨#[]⟩, 0⟩

def typI (k : Int) : Bool := decide (1 ≤ k) && decide (k ≤ 7)
def exprI (k : Int) : Bool := decide (11 ≤ k) && decide (k ≤ 25)
def statI (k : Int) : Bool := decide (31 ≤ k) && decide (k ≤ 41)
def kindI (k : Int) : Bool := typI k || exprI k || statI k || (decide (42 ≤ k) && decide (k ≤ 46))
def armI (k : Int) : Bool := k == 43 || k == 44
def elseI (k : Int) : Bool := k == 41 || k == 36
def justI (a k : Int) : Bool := k == a

def binLevelI (op : Int) : Int :=
  if op = 11 then 1 else if op = 12 then 2 else if 21 ≤ op ∧ op ≤ 26 then 3 else if op = 31 ∨ op = 32 then 4 else if 41 ≤ op ∧ op ≤ 43 then 5 else 0
/-- P2.1 -/
def levelI (kind num : Int) : Int :=
  if kind = 22 then binLevelI num else if kind = 21 then (if 1 ≤ num ∧ num ≤ 3 then 6 else 0) else if 23 ≤ kind ∧ kind ≤ 25 then 7 else if exprI kind then 8 else 0
theorem binLevelI_le (op : Int) : 0 ≤ binLevelI op ∧ binLevelI op ≤ 5 := by
  unfold binLevelI
  repeat' split
  all_goals omega
theorem levelI_le (k n : Int) : 0 ≤ levelI k n ∧ levelI k n ≤ 8 := by
  have := binLevelI_le n
  unfold levelI
  repeat' split
  all_goals omega

/-- the kids' taking: what is left, and whether one was missed -/
def mayL {α : Type} (p : α → Bool) : List α → List α
  | [] => []
  | k :: r => if p k then r else k :: r
def took {α : Type} (p : α → Bool) : List α → Bool
  | [] => false
  | k :: _ => p k
def cMay {α : Type} (p : α → Bool) (s : List α × Bool) : List α × Bool := (mayL p s.1, s.2)
def cOne {α : Type} (p : α → Bool) (s : List α × Bool) : List α × Bool := (mayL p s.1, s.2 || !took p s.1)
def cMany {α : Type} (p : α → Bool) (s : List α × Bool) : List α × Bool := (s.1.dropWhile p, s.2)
def cIter {α : Type} (p : α → Bool) : Nat → List α × Bool → List α × Bool
  | 0, s => s
  | n + 1, s => cIter p n (cOne p s)
theorem cIter_succ {α : Type} (p : α → Bool) : ∀ (n : Nat) (s : List α × Bool), cIter p (n + 1) s = cOne p (cIter p n s)
  | 0, s => rfl
  | n + 1, s => by rw [cIter, cIter_succ p n, ← cIter]
def kidsRun {α : Type} (f : α → Int) (kind num : Int) (s : List α × Bool) : List α × Bool :=
  if kind = 5 then cMany (typI ∘ f) (cOne (typI ∘ f) (cOne (typI ∘ f) s))
  else if kind = 7 then cMany (typI ∘ f) s
  else if kind = 4 ∨ kind = 6 ∨ kind = 42 ∨ kind = 45 then cOne (typI ∘ f) s
  else if kind = 15 then cMany (exprI ∘ f) (cOne (exprI ∘ f) (cOne (exprI ∘ f) s))
  else if kind = 16 ∨ kind = 23 then cMany (exprI ∘ f) (cOne (exprI ∘ f) s)
  else if kind = 17 ∨ kind = 22 ∨ kind = 24 ∨ kind = 33 ∨ kind = 34 then cOne (exprI ∘ f) (cOne (exprI ∘ f) s)
  else if kind = 14 ∨ kind = 18 ∨ kind = 21 ∨ kind = 25 ∨ kind = 31 ∨ kind = 35 ∨ kind = 39 then cOne (exprI ∘ f) s
  else if kind = 19 then cOne (justI 6 ∘ f) s
  else if kind = 20 then cOne (justI 41 ∘ f) (if num = 1 then cOne (typI ∘ f) (cMany (justI 42 ∘ f) s) else cMany (justI 42 ∘ f) s)
  else if kind = 32 then cMay (exprI ∘ f) (cOne (typI ∘ f) s)
  else if kind = 38 then cMay (exprI ∘ f) s
  else if kind = 44 then cOne (justI 41 ∘ f) (cOne (exprI ∘ f) (cOne (exprI ∘ f) s))
  else if kind = 37 ∨ kind = 43 then cOne (justI 41 ∘ f) (cOne (exprI ∘ f) s)
  else if kind = 36 then cMay (elseI ∘ f) (cOne (justI 41 ∘ f) (cOne (exprI ∘ f) s))
  else if kind = 40 then cMany (armI ∘ f) s
  else if kind = 46 then cMany (statI ∘ f) (cIter (justI 45 ∘ f) num.toNat s)
  else if kind = 41 then cMany (statI ∘ f) s
  else s
def fitS {α : Type} (s : List α × Bool) : Bool := !s.2 && s.1.length == 0
/-- the kids are so many and of such kinds as the kind wants -/
def kidsFitI {α : Type} (f : α → Int) (kind num : Int) (ks : List α) : Bool := fitS (kidsRun f kind num (ks, false))

def numFitsI (kind num : Int) (n : Nat) : Bool :=
  if kind = 7 then num == 0 || (num == 1 && decide (0 < n))
  else if kind = 12 ∨ kind = 20 then num == 0 || num == 1
  else if kind = 11 ∨ kind = 25 then decide (0 ≤ num)
  else if kind = 21 ∨ kind = 22 then levelI kind num != 0
  else if kind = 46 then decide (0 ≤ num) && decide (num ≤ n)
  else num == 0

/-- the node with that number -/
def ndN (l : List Nd) (i : Nat) : Nd := l.getD i nd0
def ndAt (l : List Nd) (i : Int) : Nd := l.getD i.toNat nd0
/-- its kind -/
def kdN (l : List Nd) (i : Nat) : Int := (ndN l i).kind

def wantedI (kind num : Int) (place : Nat) : Int :=
  if kind = 22 then (if place = 0 ∧ levelI kind num ≠ 3 then levelI kind num else levelI kind num + 1)
  else if kind = 21 then 6
  else if 23 ≤ kind ∧ kind ≤ 25 then (if place = 0 then 7 else 0)
  else if kind = 43 then (if place = 0 then 6 else 0)
  else 0
def levelsGo (l : List Nd) (n : Nd) : Nat → List Int → Bool
  | _, [] => true
  | p, k :: r => if levelI (ndAt l k).kind (ndAt l k).num < wantedI n.kind n.num p then false else levelsGo l n (p + 1) r
/-- does it begin with the sign that receives (f: fuel) -/
def beginsI (l : List Nd) : Nat → Int → Bool
  | 0, _ => false
  | f + 1, k => if 22 ≤ (ndAt l k).kind ∧ (ndAt l k).kind ≤ 25 then beginsI l f ((ndAt l k).kids.getD 0 0) else (ndAt l k).kind == 21 && (ndAt l k).num == 3
def levelsFitI (l : List Nd) (n : Nd) : Bool :=
  levelsGo l n 0 n.kids && (n.kind != 44 || !beginsI l (l.length + 1) (n.kids.getD 0 0))

/-- the kids, from the last on, are the nodes that the order wants -/
def orderGo (fs : List Nat) : Int → List Int → Bool
  | _, [] => true
  | next, k :: r => if k = next - 1 ∧ 0 ≤ k then orderGo fs (fs.getD k.toNat 0) r else false
def orderI (fs : List Nat) (i : Nat) (kids : List Int) : Bool := orderGo fs i kids.reverse

end Go.Proofs.YtecodpdfckjalaaGreatDoor
