import Derived.Test.YtikijkpklneihaaCVGw
namespace Go.Proofs.Ytikijkpklneihaa
open Go.RowKit
set_option linter.unusedVariables false
set_option linter.unusedSimpArgs false

def repC (n : Int) : Nat → List Value
  | 0 => []
  | k + 1 => repC n k ++ [.int .i64 0, .int .i64 n, .slice none 0 0]
def repV (n : Int) : Nat → List V
  | 0 => []
  | k + 1 => repV n k ++ [V.mk 0 n []]
theorem repC_len (n : Int) : ∀ k, (repC n k).length = k * 3
  | 0 => rfl
  | k + 1 => by simp [repC, repC_len n k]; omega
theorem repV_len (n : Int) : ∀ k, (repV n k).length = k
  | 0 => rfl
  | k + 1 => by simp [repV, repV_len n k]
theorem rep_row (W : World) (B : Nat) (n : Int) (hn : I64 n) : ∀ k, RowV W B (repV n k) (repC n k)
  | 0 => rfl
  | k + 1 => (rep_row W B n hn k).append ⟨none, 0, [], rfl, ⟨by simp [V.l], by simp [maxLen], .inl rfl⟩, ⟨by show (-9223372036854775808 : Int) ≤ 0; omega, by show (0 : Int) ≤ 9223372036854775807; omega⟩, hn, rfl⟩
theorem own_mrow {W : World} {S g n c : Nat} {xs : List Value} (hr : MRow W g (c * 3)) (hx : xs.length = n * 3) (hc : ∀ o, o < n * 3 → W.cell? ⟨g, o, none⟩ = xs[o]?) (hS : S ≤ g) (hn : n ≤ c) (hm : c ≤ maxLen) : W.ownsRow S 24 3 (.slice (some ⟨g, 0, none⟩) n c) n xs := by
  obtain ⟨C, h1, h2⟩ := hr.ex
  refine ⟨hx, .inr ⟨g, c, C, rfl, hS, h1, hn, hm, h2, ?_⟩⟩
  apply List.ext_getElem?
  intro o
  by_cases ho : o < n * 3
  · rw [List.getElem?_take_of_lt ho, Array.getElem?_toList, ← hc o ho]
    simp [World.cell?, h1]
  · rw [List.getElem?_eq_none (by simp; omega), List.getElem?_eq_none (by omega)]
/-- the list and its copy, k places longer -/
structure T2 (w1 wr : World) (lv mv : Value) (p : Option Addr) (l : List V) (cs : List Value) (n : Int) (k : Nat) : Prop where
  bel : Below w1.heap.size w1 wr
  m : wr.ownsRow w1.heap.size 24 3 mv (l.length + k) (cs ++ repC n k)
  lz : k = 0 → lv = .slice p l.length l.length
  lp : 0 < k → wr.ownsRow w1.heap.size 24 3 lv (l.length + k) (cs ++ repC n k)
  ne : 0 < k → ∀ b, lv.ownBlock = some b → mv.ownBlock ≠ some b
/-- where the list lies -/
def TLs (w1 : World) (lo : Nat) (p : Option Addr) (l : List V) (cs : List Value) : Prop :=
  cs.length = l.length * 3 ∧ ((l = [] ∧ p = none) ∨ ∃ b, p = some ⟨b, 0, none⟩ ∧ b < lo ∧ MRow w1 b (l.length * 3) ∧ ∀ o, o < l.length * 3 → w1.cell? ⟨b, o, none⟩ = cs[o]?)
theorem T2.round {w1 wr : World} {lo : Nat} {lv mv : Value} {p : Option Addr} {l : List V} {cs : List Value} {n : Int} {k : Nat} (h : T2 w1 wr lv mv p l cs n k) (ht : TLs w1 lo p l cs) (hlo : lo ≤ w1.heap.size) (hl : l.length ≤ 2147483000) (hk : k < 9) :
    ∃ lv' W3 mv' W5, (∀ ty, (Builtin.append_ #[22, 22] ty #[lv, .slice (some ⟨wr.heap.size, 0, none⟩) 1 1]).run Try.prog (wr.alloc (.cells #[.int .i64 0, .int .i64 n, .slice none 0 0] 24)) = .ok lv' W3) ∧ (∀ ty, (Builtin.append_ #[22, 22] ty #[mv, .slice (some ⟨W3.heap.size, 0, none⟩) 1 1]).run Try.prog (W3.alloc (.cells #[.int .i64 0, .int .i64 n, .slice none 0 0] 24)) = .ok mv' W5) ∧ T2 w1 W5 lv' mv' p l cs n (k + 1) := by
  obtain ⟨i0, hi, hz0, hz1, hz2⟩ := info_parts infoVl
  have hS := h.bel.size
  obtain ⟨t1, t2⟩ := ht
  have step1 : ∃ g c W3, (∀ ty, (Builtin.append_ #[22, 22] ty #[lv, .slice (some ⟨wr.heap.size, 0, none⟩) 1 1]).run Try.prog (wr.alloc (.cells #[.int .i64 0, .int .i64 n, .slice none 0 0] 24)) = .ok (.slice (some ⟨g, 0, none⟩) (l.length + k + 1) c) W3) ∧ W3.ownsRow w1.heap.size 24 3 (.slice (some ⟨g, 0, none⟩) (l.length + k + 1) c) (l.length + k + 1) (cs ++ repC n (k + 1)) ∧ Below w1.heap.size w1 W3 ∧ W3.ownsRow w1.heap.size 24 3 mv (l.length + k) (cs ++ repC n k) ∧ mv.ownBlock ≠ some g ∧ wr.heap.size ≤ W3.heap.size := by
    by_cases hk0 : k = 0
    · subst hk0
      rw [h.lz rfl]
      rcases t2 with ⟨e1, e2⟩ | ⟨b, e1, e2, e3, e4⟩
      · subst e2
        have hl0 : l.length = 0 := by rw [e1]; rfl
        have hcs : cs = [] := List.eq_nil_of_length_eq_zero (by omega)
        obtain ⟨g, c, W3, r1, r2, r3, _, r5⟩ := app1 Try.underlying22 hi hz0 hz1 hz2 rfl (by decide) wr w1.heap.size (.slice none 0 0) 0 [] (World.ownsRow_nil _ _ _ _) #[.int .i64 0, .int .i64 n, .slice none 0 0] rfl (by simp [Value.oneCell']) (by unfold maxLen; omega) (by omega) hS
        have hg : wr.heap.size ≤ g := r5.elim (fun e => by cases e) id
        have hb : Below wr.heap.size wr W3 := ⟨r3.os, r3.tape, r3.output, r3.size, fun b hb => r3.block b hb (by simp [Value.ownBlock])⟩
        rw [hl0, hcs]
        refine ⟨g, c, W3, fun ty => by simpa using r1 ty, by simpa [repC] using r2, h.bel.trans (hb.mono hS), ?_, fun e => ?_, r3.size⟩
        · have := own_new h.m hb
          rwa [hl0, hcs] at this
        · have := (owns_block h.m e).2
          omega
      · subst e1
        have hbw : b < wr.heap.size := by omega
        have hrb : wr.heap[b]? = w1.heap[b]? := h.bel.block b (by omega)
        obtain ⟨c', W3, r1, r2, r3, r4, r5, r6, r7, r8, r9⟩ := app_full wr b l.length l.length cs (by omega) hbw (fun o ho => by
          rw [World.cell?_of_block (a := ⟨b, o, none⟩) hrb]; exact e4 o ho) (Nat.le_refl _) (by omega) 0 n
        refine ⟨wr.heap.size + 1, c', W3, fun ty => r1 ty, own_mrow r5 (by simp [repC, repC_len]; omega) (fun o ho => ?_) (by omega) r2 r3, h.bel.trans (r4.mono hS), own_new h.m r4, fun e => ?_, r4.size⟩
        · simp only [Nat.add_zero] at ho ⊢
          by_cases h1 : o < l.length * 3
          · rw [r6 o h1, List.getElem?_append_left (by omega)]
          · rw [List.getElem?_append_right (by omega)]
            have : o = l.length * 3 ∨ o = l.length * 3 + 1 ∨ o = l.length * 3 + 2 := by omega
            rcases this with e | e | e
            · subst e; rw [r7, show l.length * 3 - cs.length = 0 by omega]; rfl
            · subst e; rw [r8, show l.length * 3 + 1 - cs.length = 1 by omega]; rfl
            · subst e; rw [r9, show l.length * 3 + 2 - cs.length = 2 by omega]; rfl
        · have := (owns_block h.m e).2
          omega
    · have hk1 : 0 < k := by omega
      obtain ⟨g, c, W3, r1, r2, r3, _, r5⟩ := app1 Try.underlying22 hi hz0 hz1 hz2 rfl (by decide) wr w1.heap.size lv (l.length + k) _ (h.lp hk1) #[.int .i64 0, .int .i64 n, .slice none 0 0] rfl (by simp [Value.oneCell']) (by unfold maxLen; omega) (by omega) hS
      refine ⟨g, c, W3, r1, by simpa [repC] using r2, h.bel.grown r3 hS fun b hb => own_base (h.lp hk1) b hb, own_same h.m fun b o hb ho => grown_at r3 ho fun e => h.ne hk1 b e hb, fun e => ?_, r3.size⟩
      rcases r5 with r5 | r5
      · exact h.ne hk1 g r5 e
      · have := (owns_block h.m e).2
        omega
  obtain ⟨g, c, W3, r1, r2, r3, r4, r5, r6⟩ := step1
  obtain ⟨g', c', W5, q1, q2, q3, _, q5⟩ := app1 Try.underlying22 hi hz0 hz1 hz2 rfl (by decide) W3 w1.heap.size mv (l.length + k) _ r4 #[.int .i64 0, .int .i64 n, .slice none 0 0] rfl (by simp [Value.oneCell']) (by unfold maxLen; omega) (by omega) r3.size
  have hgg : g' ≠ g := fun e => by
    subst e
    rcases q5 with q5 | q5
    · exact r5 q5
    · have h9 : g' < W3.heap.size := (owns_block r2 rfl).2
      omega
  refine ⟨_, W3, _, W5, r1, q1, ⟨r3.grown q3 r3.size fun b hb => own_base r4 b hb, by rw [← Nat.add_assoc]; simpa [repC] using q2, fun e => by omega, fun _ => own_same (by rw [← Nat.add_assoc]; exact r2) fun b o hb ho => grown_at q3 ho fun e => ?_, fun _ b hb e => ?_⟩⟩
  · simp only [Value.ownBlock, Option.some.injEq] at hb
    subst hb
    exact r5 e
  · obtain rfl : g = b := by simpa [Value.ownBlock] using hb
    exact hgg (by simpa [Value.ownBlock] using e)
/-- at the start: a copy -/
theorem T2.start {w1 : World} {lo : Nat} {p : Option Addr} {l : List V} {cs : List Value} {n : Int} (ht : TLs w1 lo p l cs) (hlo : lo ≤ w1.heap.size) (hl : l.length ≤ 2147483000) (h1 : ∀ u ∈ cs, u.oneCell' = true) :
    ∃ mv W3, (∀ ty, (Builtin.append_ #[22, 22] ty #[.slice (some ⟨w1.heap.size, 0, none⟩) 0 0, .slice p l.length l.length]).run Try.prog (w1.alloc (.cells #[] 24)) = .ok mv W3) ∧ T2 w1 W3 (.slice p l.length l.length) mv p l cs n 0 := by
  obtain ⟨i0, hi, hz0, hz1, hz2⟩ := info_parts infoVl
  have hb := below1 w1 (.cells #[] 24)
  have ho : (w1.alloc (.cells #[] 24)).ownsRow w1.heap.size 24 3 (.slice (some ⟨w1.heap.size, 0, none⟩) 0 0) 0 [] := ⟨rfl, .inr ⟨w1.heap.size, 0, #[], rfl, Nat.le_refl _, World.alloc_heap_new _ _, Nat.le_refl _, by simp [maxLen], rfl, rfl⟩⟩
  obtain ⟨t1, t2⟩ := ht
  obtain ⟨mv, W3, r1, r2, r3⟩ := appL Try.underlying22 hi hz0 hz1 hz2 rfl (by decide) (w1.alloc (.cells #[] 24)) w1.heap.size _ 0 [] ho p l.length l.length cs t1 (fun h0 => by
    rcases t2 with ⟨e1, e2⟩ | ⟨b, e1, e2, e3, e4⟩
    · rw [e1] at h0; simp at h0
    · refine ⟨_, e1, fun j u hj => ?_⟩
      have hjl := (List.getElem?_eq_some_iff.1 hj).1
      rw [show (⟨b, 0, none⟩ : Addr).add j = ⟨b, j, none⟩ by unfold Addr.add; split <;> simp_all, hb.cell (p := ⟨b, j, none⟩) (by show b < w1.heap.size; omega), e4 j (by omega)]
      exact hj) h1 (by unfold maxLen; omega) (by omega) hb.size
  rw [List.nil_append, Nat.zero_add] at r2
  exact ⟨mv, W3, r1, ⟨hb.grown r3 hb.size fun b hb' => own_base ho b hb', by simpa [repC] using r2, fun _ => rfl, fun e => by omega, fun e => by omega⟩⟩
/-- at the end -/
theorem T2.fin {w1 wr : World} {lo : Nat} {lv mv : Value} {p : Option Addr} {l : List V} {cs : List Value} {n : Int} (h : T2 w1 wr lv mv p l cs n 9) (hr : RowV w1 lo l cs) (hlo : lo ≤ w1.heap.size) (hn : I64 n) : ∃ g c g' c', lv = .slice (some ⟨g, 0, none⟩) (l ++ repV n 9).length c ∧ mv = .slice (some ⟨g', 0, none⟩) (l ++ repV n 9).length c' ∧ GrL wr lo g c (l ++ repV n 9) ∧ GrL wr lo g' c' (l ++ repV n 9) := by
  have hl9 : (l ++ repV n 9).length = l.length + 9 := by simp [repV_len]
  have hrow : RowV wr lo (l ++ repV n 9) (cs ++ repC n 9) := (hr.lo (Lo.of (h.bel.mono hlo))).append (rep_row wr lo n hn 9)
  have key : ∀ v, wr.ownsRow w1.heap.size 24 3 v (l.length + 9) (cs ++ repC n 9) → ∃ g c, v = .slice (some ⟨g, 0, none⟩) (l ++ repV n 9).length c ∧ GrL wr lo g c (l ++ repV n 9) := fun v ho => by
    rcases ho.2 with ⟨_, e⟩ | ⟨g, cap, cur, e1, h1, h2, h3, h4, h5, h6⟩
    · omega
    · refine ⟨g, cap, by rw [hl9]; exact e1, ⟨by omega, ⟨cur, h2⟩, by rw [hl9]; exact h3, h4, AtVs.of_get fun i hi => ?_⟩⟩
      obtain ⟨a1, a2, a3, a4, q, c, a5, a6⟩ := hrow.getG i hi
      have hc : ∀ (o : Nat) u, (cs ++ repC n 9)[o]? = some u → wr.cell? ⟨g, o, none⟩ = some u := fun o u hu => by
        have hol := (List.getElem?_eq_some_iff.1 hu).1
        have hln := ho.1
        refine cell_blk h2 ?_
        rw [← h6, List.getElem?_take_of_lt (by omega), Array.getElem?_toList] at hu
        exact hu
      have e0 : 0 + 3 * i = i * 3 := by omega
      rw [e0]
      exact ⟨hc _ _ a1, hc _ _ a2, a3, a4, q, c, hc _ _ a5, a6⟩
  obtain ⟨g, c, e1, e2⟩ := key lv (h.lp (by omega))
  obtain ⟨g', c', f1, f2⟩ := key mv h.m
  exact ⟨g, c, g', c', e1, f1, e2, f2⟩
/-- a tree's list as such -/
theorem TrV.tls {W : World} {ρ : Gh} {id lo : Nat} {q : List Nat} {x : V} {p : Option Addr} {c : Nat} (h : TrV W ρ id q x p c) (he : id % 2 = 0) (hρ : ∀ b, ρ b ≠ none → b < lo) : c = x.l.length ∧ ∃ cs, RowV W lo x.l cs ∧ TLs W lo p x.l cs := by
  have hs := TrV.slB hρ x h
  obtain ⟨h1, h2, h3⟩ := TrV.iff.1 h
  have hc := h1.2 he
  refine ⟨hc, ?_⟩
  rcases h3 with ⟨e1, e2, e3⟩ | ⟨b, e1, e2, e3, e4⟩
  · exact ⟨[], by rw [e1]; rfl, by rw [e1]; rfl, .inl ⟨e1, e2⟩⟩
  · rcases hs.2.2 with e | ⟨b', o', f1, f2, f3⟩
    · refine ⟨[], by rw [e]; rfl, by rw [e]; rfl, .inr ⟨b, e1, hρ b (by rw [e2]; simp), by rw [e]; rw [hc, e] at e3; exact e3, fun o ho => by rw [e] at ho; simp at ho⟩⟩
    · rw [e1] at f1
      simp only [Option.some.injEq, Addr.mk.injEq, and_true] at f1
      obtain ⟨rfl, rfl⟩ := f1
      obtain ⟨cs, g1, g2⟩ := f3.cells
      refine ⟨cs, g1, g1.len, .inr ⟨b, e1, f2, by rw [hc] at e3; exact e3, fun o ho => ?_⟩⟩
      have hlt : o < cs.length := by rw [g1.len]; exact ho
      have := g2 o cs[o] (List.getElem?_eq_getElem hlt)
      rw [Nat.zero_add] at this
      rw [this, List.getElem?_eq_getElem hlt]
end Go.Proofs.Ytikijkpklneihaa
