import Derived.Test.YtfocggaocadkmaaDoorNext
import Derived.Deep.AppendLies
namespace Go.Proofs.YtfocggaocadkmaaDoor
open Go.RowKit
set_option linter.unusedVariables false
set_option linter.unusedSimpArgs false

/-- what is scanned from k on, with what stood ahead -/
def scanGo : Nat → List UInt8 → Nat → List Tok → List Tok × Nat × Nat
  | 0, _, _, acc => (acc, 0, 0)
  | f + 1, xs, k, acc =>
    if k < xs.length then
      (if (nextR xs k).2 = 0 then scanGo f xs (skipTo xs (k + (nextR xs k).1.len)) (acc ++ [(nextR xs k).1]) else ([], k, (nextR xs k).2))
    else (acc, 0, 0)
/-- THE TOKENS OF A SOURCE; where it is wrong, and how -/
def scanAll (xs : List UInt8) : List Tok × Nat × Nat := if 65536 < xs.length then ([], 65536, 10) else scanGo (xs.length + 1) xs (skipTo xs 0) []

def toksC (l : List Tok) : List Value := l.flatMap tokC
theorem toksC_len (l : List Tok) : (toksC l).length = l.length * 4 := by
  induction l with
  | nil => rfl
  | cons t r ih => unfold toksC at *; simp only [List.flatMap_cons, List.length_append, List.length_cons, ih]; simp [tokC]; omega
theorem toksC_snoc (l : List Tok) (t : Tok) : toksC (l ++ [t]) = toksC l ++ tokC t := by
  unfold toksC; simp

theorem info40 : (Tryd.prog.info? 44).map (fun i => (i.zero, i.size, i.bytes)) = some (some (.agg #[.int .i64 0, .int .i64 0, .int .i64 0, .int .i64 0]), 4, 32) := by kernel_rfl

/-- what holds ahead of a round -/
structure ScanInv (w : World) (xs : List UInt8) (f k : Nat) (acc : List Tok) : Prop where
  eq : scanAll xs = scanGo f xs k acc
  fuel : xs.length - k < f
  few : acc.length ≤ k
def ScanMem (w wr : World) : Prop := Below (w.heap.size + 1) (w.alloc (.cells #[.int .i64 0, .int .i64 0] 39)) wr
theorem ScanMem.below {w wr : World} (h : ScanMem w wr) : Below w.heap.size w wr :=
  ((Below.refl w.heap.size w).alloc (Nat.le_refl _) _).trans (Below.mono h (by omega))

theorem owns_below {w w' : World} {B : Nat} {e : TypeId} {s : Nat} {v : Value} {n : Nat} {cs : List Value} (h : w.ownsRow B e s v n cs) (hb : Below w.heap.size w w') : w'.ownsRow B e s v n cs := by
  obtain ⟨h1, h2⟩ := h
  refine ⟨h1, ?_⟩
  rcases h2 with h2 | ⟨g, cap, cur, hv, hg, hh, r⟩
  · exact .inl h2
  · refine .inr ⟨g, cap, cur, hv, hg, ?_, r⟩
    rw [hb.block g ?_]
    · exact hh
    · rcases Nat.lt_or_ge g w.heap.size with hlt | hge
      · exact hlt
      · rw [Array.getElem?_eq_none hge] at hh; cases hh
theorem owns_base {w : World} {B B' : Nat} {e : TypeId} {s : Nat} {v : Value} {n : Nat} {cs : List Value} (h : w.ownsRow B e s v n cs) (hb : B' ≤ B) : w.ownsRow B' e s v n cs := by
  obtain ⟨h1, h2⟩ := h
  refine ⟨h1, ?_⟩
  rcases h2 with h2 | ⟨g, cap, cur, hv, hg, r⟩
  · exact .inl h2
  · exact .inr ⟨g, cap, cur, hv, by omega, r⟩

/-- a token's block -/
def tokO (t : Tok) : Obj := .cells #[.int .i64 t.kind, .int .i64 t.place, .int .i64 t.len, .int .i64 t.num] 44
theorem news_at (w1 : World) (o1 : Obj) (t : Tok) : ∀ j u, (tokC t)[j]? = some u → ((w1.alloc o1).alloc (tokO t)).cell? ((⟨w1.heap.size + 1, 0, none⟩ : Addr).add j) = some u := by
  have h := heap_alloc_new (w1.alloc o1) (tokO t)
  have e : (w1.alloc o1).heap.size = w1.heap.size + 1 := by simp
  rw [e] at h
  exact World.news_of_block (cs := #[.int .i64 t.kind, .int .i64 t.place, .int .i64 t.len, .int .i64 t.num]) h
theorem tokC_one (t : Tok) : ∀ u ∈ tokC t, u.oneCell' = true := by
  intro u hu
  simp only [tokC, List.mem_cons, List.not_mem_nil, or_false] at hu
  rcases hu with rfl | rfl | rfl | rfl <;> rfl
theorem two_below (w1 : World) (o1 o2 : Obj) : Below w1.heap.size w1 ((w1.alloc o1).alloc o2) := ((Below.refl _ _).alloc (Nat.le_refl _) _).alloc (by simp) _

theorem scan_step {w wr w1 w2 : World} {u : Value} {n : Nat} {cs : List Value} {t : Tok} (hown : wr.ownsRow (w.heap.size + 1) 44 4 u n cs) (HB : ScanMem w wr) (hb1 : Below wr.heap.size wr w1)
    (hg : ((w1.alloc (tokO t)).alloc (tokO t)).grownBy w2 u.ownBlock) : ScanMem w w2 ∧ w2.cell? ⟨w1.heap.size, 2, none⟩ = some (.int .i64 t.len) := by
  have hz := Below.size HB
  simp at hz
  have hz1 := hb1.size
  refine ⟨?_, ?_⟩
  · refine Below.grown (Below.trans (Below.trans HB (hb1.mono (by omega))) ((two_below w1 _ _).mono (by omega))) hg (by simp; omega) ?_
    intro k hk
    exact (hown.lt k hk).1
  · rw [hg.cell_far _ (by simp; omega) (by intro e; have := (hown.lt _ e.symm).2; simp at this; omega)]
    simp [tokO]

theorem owns_fault {w wr : World} {u : Value} {n : Nat} {cs : List Value} {x y : Value} (h : wr.ownsRow (w.heap.size + 1) 44 4 u n cs) :
    ((wr.setCell ⟨w.heap.size, 0, none⟩ x).setCell ⟨w.heap.size, 1, none⟩ y).ownsRow w.heap.size 44 4 u n cs :=
  owns_base (ownsRow_setCell_below (ownsRow_setCell_below h (by simp) _) (by simp) _) (by omega)

/-- the place of the fault -/
theorem fault_cells {w wr : World} (HB : ScanMem w wr) : ∀ w1, Below wr.heap.size wr w1 → w1.cell? ⟨w.heap.size, 0, none⟩ = some (.int .i64 0) ∧ w1.cell? ⟨w.heap.size, 1, none⟩ = some (.int .i64 0) ∧ w1.frozen? ⟨w.heap.size, 0, none⟩ = false ∧ w1.frozen? ⟨w.heap.size, 1, none⟩ = false ∧ w.heap.size < w1.heap.size := by
  intro w1 hb1
  have hz1 := hb1.size
  have hz := Below.size HB
  simp at hz
  refine ⟨?_, ?_, ?_, ?_, by omega⟩
  · rw [hb1.cell (by simp; omega), Below.cell HB (by simp)]; simp
  · rw [hb1.cell (by simp; omega), Below.cell HB (by simp)]; simp
  · rw [hb1.frozen (by simp; omega), Below.frozen HB (by simp)]; simp
  · rw [hb1.frozen (by simp; omega), Below.frozen HB (by simp)]; simp

set_option maxRecDepth 100000 in
set_option maxHeartbeats 400000 in
theorem Scan_some (b o cap : Nat) (xs : List UInt8) (w : World) (hs : Src w b o xs) (hb : b < w.heap.size) (hl : xs.length ≤ 65536) (hcap : xs.length ≤ cap) (hL : Laid w) :
    Calls Tryd.prog 15 #[.slice (some ⟨b, o, none⟩) xs.length cap] w fun e w' => ∃ v, e = .returned (.tuple #[v, .agg #[.int .i64 (scanAll xs).2.1, .int .i64 (scanAll xs).2.2]]) ∧ w'.ownsRow w.heap.size 44 4 v (scanAll xs).1.length (toksC (scanAll xs).1) ∧ Below w.heap.size w w' := by
  have hml : xs.length ≤ maxLen := by unfold maxLen; omega
  have hsk := skip_any b o cap xs 0 (w.alloc (.cells #[.int .i64 0, .int .i64 0] 39)) (hs.below hb ((Below.refl _ _).alloc (Nat.le_refl _) _)) hml (Nat.zero_le _)
  have HK : Box _ := ⟨hsk⟩
  have h0 := (skipTo_le xs 0 (Nat.zero_le _)).2
  have hst : ScanInv w xs (xs.length + 1) (skipTo xs 0) [] := ⟨by unfold scanAll; rw [if_neg (by omega)], by omega, Nat.zero_le _⟩
  generalize skipTo xs 0 = k0 at *
  clear hsk
  obtain ⟨i0, hi, hz0, hz1, hz2⟩ := info_parts info40
  go_enter Tryd.func15, Tryd.ntmps15
  go_wp2_with (first | (go_at_call 26; refine Calls.mono HK.out ?_; rintro e w' ⟨rfl, rfl⟩))
  go_loopw [4, 5] (fun v i wr => ∃ f k : Nat, ∃ acc : List Tok, k ≤ xs.length ∧ i = .int .i64 k ∧ wr.ownsRow (w.heap.size + 1) 44 4 v acc.length (toksC acc) ∧ ScanMem w wr ∧ ScanInv w xs f k acc)
    (fun _ i _ => xs.length - (intOf i).toNat)
  case atStart => exact ⟨xs.length + 1, k0, [], h0, rfl, World.ownsRow_nil _ _ _ _, Below.refl _ _, hst⟩
  case round =>
    obtain ⟨f, k, acc, hk, rfl, hown, HB, HE⟩ := hrel
    by_cases hlt : k < xs.length
    · have hsz := HB.below.size
      have HN : Box _ := ⟨next_any b o cap xs k wr (hs.below hb HB.below) (by omega) hl hcap hlt (hL.below HB.below)⟩
      have hlen := nextR_len xs k hlt
      generalize hr : nextR xs k = r at *
      by_cases he : r.2 = 0
      · have hlen := hlen he
        have hnx : f ≠ 0 := by have := HE.fuel; omega
        obtain ⟨f, rfl⟩ : ∃ f', f = f' + 1 := ⟨f - 1, by omega⟩
        have hskl := skipTo_le xs (k + r.1.len) hlen.2
        have HE' : ScanInv w xs f (skipTo xs (k + r.1.len)) (acc ++ [r.1]) := by
          refine ⟨?_, ?_, ?_⟩
          · rw [HE.eq, scanGo, if_pos hlt, hr, if_pos he]
          · have := HE.fuel; omega
          · have := HE.few; simp; omega
        have HSK : Box (∀ w2, Below w.heap.size w w2 → Calls Tryd.prog 26 #[.slice (some ⟨b, o, none⟩) xs.length cap, .int .i64 ((k : Int) + (r.1.len : Int))] w2 fun e w' => e = .returned (.int .i64 (skipTo xs (k + r.1.len))) ∧ w2 = w') :=
          ⟨fun w2 h2 => skip_any b o cap xs (k + r.1.len) w2 (hs.below hb h2) hml hlen.2⟩
        generalize skipTo xs (k + r.1.len) = k' at *
        have hec : ((r.2 : Int) != 0) = false := by rw [he]; rfl
        have hfew := HE.few
        clear HE hr he hs hL HK hst h0
        obtain ⟨hlen1, hlen2⟩ := hlen
        go_wp2_with (first | (go_at_call 27; refine Calls.mono HN.out ?_; rintro e w1 ⟨rfl, hb1⟩; unfold tokV) | (at_builtin; refine wpList_append_lies _ rfl (.tmp 29) (.tmp 31) 37 rfl (w.heap.size + 1) 44 i0 (.agg #[.int .i64 0, .int .i64 0, .int .i64 0, .int .i64 0]) 4 32 Tryd.underlying37 hi hz0 hz1 hz2 rfl (by omega) _ acc.length (toksC acc) rfl (owns_below (owns_below hown hb1) (two_below w1 _ _)) ⟨w1.heap.size + 1, 0, none⟩ 1 1 (tokC r.1) rfl rfl (news_at w1 _ r.1) (tokC_one r.1) (by omega) (by unfold maxLen; omega) (by omega) (by have := Below.size HB; have := hb1.size; simp at *; omega) (w1.heap.size + 2) (by simp) ?_; intro g cp w2 hown2 hgrow hat hlt2; obtain ⟨HB2, hc2⟩ := scan_step hown HB hb1 hgrow; clear hgrow hat hlt2) | (go_at_call 26; refine Calls.mono (HSK.out _ HB2.below) ?_; rintro e w' ⟨rfl, rfl⟩))
        go_roundw
        case rel => exact ⟨f, k', acc ++ [r.1], hskl.2, rfl, by rw [toksC_snoc]; simpa using hown2, HB2, HE'⟩
        case measure => simp [intOf]; omega
      · have hec : ((r.2 : Int) != 0) = true := by rw [bne_iff_ne]; omega
        obtain ⟨f, rfl⟩ : ∃ f', f = f' + 1 := ⟨f - 1, by have := HE.fuel; omega⟩
        have HA : Box (scanAll xs = ([], k, r.2)) := ⟨by rw [HE.eq, scanGo, if_pos hlt, hr, if_neg he]⟩
        have HF := fault_cells HB
        clear HE hr he hs hL HK hst h0 hown hlen
        go_wp2_with (first | (go_at_call 27; refine Calls.mono HN.out ?_; rintro e w1 ⟨rfl, hb1⟩; obtain ⟨p0, p1, p2, p3, p4⟩ := HF w1 hb1; unfold tokV))
        refine bodyPost_ret (v := .tuple #[.slice none 0 0, .agg #[.int .i64 k, .int .i64 r.2]]) (by simp [results, Tryd.results15, go_sem, p0, p1, p4]) rfl ⟨.slice none 0 0, by rw [HA.out], by rw [HA.out]; exact World.ownsRow_nil _ _ _ _, ?_⟩
        exact ((((HB.below.trans (hb1.mono (by omega))).setCell (Nat.le_refl _) _).setCell (Nat.le_refl _) _).alloc (by simp; omega) _)
    · obtain ⟨f, rfl⟩ : ∃ f', f = f' + 1 := ⟨f - 1, by have := HE.fuel; omega⟩
      have HA : Box (scanAll xs = (acc, 0, 0)) := ⟨by rw [HE.eq, scanGo, if_neg hlt]⟩
      have hwr : Below wr.heap.size wr wr := Below.refl _ _
      obtain ⟨p0, p1, p2, p3, p4⟩ := fault_cells HB wr hwr
      clear HE hs hL HK hst h0 hwr
      go_wp2
      refine bodyPost_ret (v := .tuple #[u4, .agg #[.int .i64 0, .int .i64 0]]) (by simp [results, Tryd.results15, go_sem, p0, p1]) rfl ⟨u4, by rw [HA.out]; rfl, by rw [HA.out]; exact owns_fault hown, ?_⟩
      exact (HB.below.setCell (Nat.le_refl _) _).setCell (Nat.le_refl _) _
end Go.Proofs.YtfocggaocadkmaaDoor
