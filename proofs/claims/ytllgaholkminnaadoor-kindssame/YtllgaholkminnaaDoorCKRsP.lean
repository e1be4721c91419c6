import Derived.Test.YtllgaholkminnaaDoorCKP
import Derived.Test.YtllgaholkminnaaDoorCKSr
import Derived.Test.YtllgaholkminnaaDoorCKMem
namespace Go.Proofs.YtllgaholkminnaaDoor

set_option linter.unusedVariables false
set_option linter.unusedSimpArgs false

/-- in the midst of the reference's Same; S: the pairs that were seen -/
structure Sd (t : List Ty) (a b : Nat) (S : Nat → Nat → Bool) (ps : List (Nat × Nat)) : Prop where
  hd : ∀ x y, S x y = true → Alike (tyN t x) (tyN t y) ∧ ∀ k, k < (tyN t x).kids.length → S (kidN t x k) (kidN t y k) = true ∨ (kidN t x k, kidN t y k) ∈ ps
  ab : S a b = true ∨ (a, b) ∈ ps
  bi : Bis t a b → ∀ p ∈ ps, Bis t p.1 p.2
  pl : ∀ p ∈ ps, p.1 < t.length ∧ p.2 < t.length
def noneS : Nat → Nat → Bool := fun _ _ => false
def markS (S : Nat → Nat → Bool) (x y : Nat) : Nat → Nat → Bool := fun u v => if u = x ∧ v = y then true else S u v
theorem sd_start (t : List Ty) (a b : Nat) (ha : a < t.length) (hb : b < t.length) : Sd t a b noneS [(a, b)] := by
  refine ⟨fun x y h => (by cases h), .inr (by simp), fun h p hp => ?_, fun p hp => ?_⟩
  · simp only [List.mem_singleton] at hp
    subst hp
    exact h
  · simp only [List.mem_singleton] at hp
    subst hp
    exact ⟨ha, hb⟩
theorem Sd.skip {t : List Ty} {a b : Nat} {S : Nat → Nat → Bool} {ps : List (Nat × Nat)} {x y : Nat} (h : Sd t a b S (ps ++ [(x, y)])) (e : S x y = true) : Sd t a b S ps := by
  have hm : ∀ u v, (u, v) ∈ ps ++ [(x, y)] → S u v = true ∨ (u, v) ∈ ps := fun u v hp => by
    simp only [List.mem_append, List.mem_singleton, Prod.mk.injEq] at hp
    rcases hp with hp | ⟨rfl, rfl⟩
    · exact .inr hp
    · exact .inl e
  refine ⟨fun u v q => ⟨(h.hd u v q).1, fun k hk => ?_⟩, ?_, fun q p hp => h.bi q p (by simp [hp]), fun p hp => h.pl p (by simp [hp])⟩
  · rcases (h.hd u v q).2 k hk with r | r
    · exact .inl r
    · exact hm _ _ r
  · rcases h.ab with r | r
    · exact .inl r
    · exact hm _ _ r
theorem Sd.unlike {t : List Ty} {a b : Nat} {S : Nat → Nat → Bool} {ps : List (Nat × Nat)} {x y : Nat} (h : Sd t a b S (ps ++ [(x, y)])) (e : ¬ Alike (tyN t x) (tyN t y)) : ¬ Bis t a b := fun q =>
  e (bis_is t _ _ (h.bi q (x, y) (by simp))).1
theorem Sd.mark {t : List Ty} {a b : Nat} {S : Nat → Nat → Bool} {ps : List (Nat × Nat)} {x y : Nat} (h : Sd t a b S (ps ++ [(x, y)])) (hv : validI t = true) (e : Alike (tyN t x) (tyN t y)) : Sd t a b (markS S x y) (ps ++ kidPairs t x y) := by
  obtain ⟨hx, hy⟩ := h.pl (x, y) (by simp)
  have hm : ∀ u v, S u v = true ∨ (u, v) ∈ ps ++ [(x, y)] → markS S x y u v = true ∨ (u, v) ∈ ps ++ kidPairs t x y := fun u v hp => by
    rcases hp with hp | hp
    · left; unfold markS; split
      · rfl
      · exact hp
    · simp only [List.mem_append, List.mem_singleton, Prod.mk.injEq] at hp
      rcases hp with hp | ⟨rfl, rfl⟩
      · exact .inr (by simp [hp])
      · left; unfold markS; rw [if_pos ⟨rfl, rfl⟩]
  refine ⟨fun u v q => ?_, hm _ _ h.ab, fun q p hp => ?_, fun p hp => ?_⟩
  · unfold markS at q
    split at q
    · rename_i c
      obtain ⟨rfl, rfl⟩ := c
      refine ⟨e, fun k hk => .inr ?_⟩
      rw [List.mem_append]
      right
      unfold kidPairs
      rw [List.mem_map]
      exact ⟨k, by rw [List.mem_range]; exact hk, rfl⟩
    · exact ⟨(h.hd u v q).1, fun k hk => hm _ _ ((h.hd u v q).2 k hk)⟩
  · rw [List.mem_append] at hp
    rcases hp with hp | hp
    · exact h.bi q p (by simp [hp])
    · unfold kidPairs at hp
      rw [List.mem_map] at hp
      obtain ⟨k, hk, rfl⟩ := hp
      rw [List.mem_range] at hk
      exact (bis_is t _ _ (h.bi q (x, y) (by simp))).2 k hk
  · rw [List.mem_append] at hp
    rcases hp with hp | hp
    · exact h.pl p (by simp [hp])
    · unfold kidPairs at hp
      rw [List.mem_map] at hp
      obtain ⟨k, hk, rfl⟩ := hp
      rw [List.mem_range] at hk
      obtain ⟨m, _, hm, e1⟩ := valid_kid hv hx hk
      obtain ⟨m', _, hm', e2⟩ := valid_kid hv hy (k := k) (by rw [← e.len]; exact hk)
      show kidN t x k < _ ∧ kidN t y k < _
      rw [e1, e2]
      exact ⟨hm, hm'⟩
theorem Sd.done {t : List Ty} {a b : Nat} {S : Nat → Nat → Bool} (h : Sd t a b S []) : Bis t a b := by
  refine ⟨fun x y => S x y = true, fun x y q => ⟨(h.hd x y q).1, fun k hk => ?_⟩, ?_⟩
  · rcases (h.hd x y q).2 k hk with r | r
    · exact r
    · cases r
  · rcases h.ab with r | r
    · exact r
    · cases r
/-- what is left to be seen -/
def leftF (t : List Ty) (S : Nat → Nat → Bool) (x : Nat) : Nat := sumTo (fun y => if S x y = true then 0 else 1 + (tyN t x).kids.length) t.length
def leftN (t : List Ty) (S : Nat → Nat → Bool) : Nat := sumTo (leftF t S) t.length
theorem sumTo_const (c : Nat) : ∀ n, sumTo (fun _ => c) n = n * c
  | 0 => by simp [sumTo]
  | n + 1 => by simp only [sumTo, sumTo_const c n]; rw [Nat.succ_mul]
theorem sumTo_mul (f : Nat → Nat) (c : Nat) : ∀ n, sumTo (fun i => c * f i) n = c * sumTo f n
  | 0 => by simp [sumTo]
  | n + 1 => by simp only [sumTo, sumTo_mul f c n]; rw [Nat.mul_add]
theorem left_start (t : List Ty) : leftN t noneS = t.length * load t id := by
  unfold leftN load
  rw [← sumTo_mul]
  refine sumTo_congr _ fun x _ => ?_
  unfold leftF loadF
  simp only [noneS, Bool.false_eq_true, if_false, id, if_true]
  rw [sumTo_const]
theorem left_mark {t : List Ty} {S : Nat → Nat → Bool} {x y : Nat} (hx : x < t.length) (hy : y < t.length) (h : S x y = false) : leftN t S = leftN t (markS S x y) + (1 + (tyN t x).kids.length) := by
  unfold leftN
  refine sumTo_less (x := x) ?_ (fun i hi => ?_) _ hx
  · unfold leftF
    refine sumTo_less (x := y) ?_ (fun j hj => ?_) _ hy
    · simp [markS, h]
    · simp [markS, hj]
  · unfold leftF
    refine sumTo_congr _ fun j _ => ?_
    simp [markS, hi]
end Go.Proofs.YtllgaholkminnaaDoor
namespace Go.Proofs.YtllgaholkminnaaDoor
open Go.RowKit
set_option linter.unusedVariables false
set_option linter.unusedSimpArgs false

theorem blocks_ne {W : World} {b b' : Nat} {C C' : Array Value} {t t' : TypeId} (h : W.heap[b]? = some (.cells C t (0, 0))) (h' : W.heap[b']? = some (.cells C' t' (0, 0))) (ht : t ≠ t') : b ≠ b' := by
  rintro rfl
  rw [h] at h'
  simp only [Option.some.injEq, Obj.cells.injEq] at h'
  exact ht h'.2.1
/-- a row of what was seen: none yet, or a block -/
def seenV (N : Nat) : Option Nat → Value
  | none => .slice none 0 0
  | some b => .slice (some ⟨b, 0, none⟩) N N
def pairV (p : Nat × Nat × Nat) : Value := .slice (some ⟨p.1, 0, none⟩) 2 2
theorem infoInts : (Tryd.prog.info? 24).map (fun i => (i.zero, i.size, i.bytes)) = some (some (.slice none 0 0), 1, 24) := by kernel_rfl
theorem infoBools : (Tryd.prog.info? 58).map (fun i => (i.zero, i.size, i.bytes)) = some (some (.slice none 0 0), 1, 24) := by kernel_rfl
def nones (N : Nat) : Array Value := madeCells #[.slice none 0 0] (N * 1)
theorem make_rows (w : World) (N : Nat) (hN : N ≤ 2147483647) : (Instr.makeSlice 56 (.int .i64 N) (.int .i64 N)).run Tryd.prog w = .ok (.slice (some ⟨w.heap.size, 0, none⟩) N N) (w.alloc (.cells (nones N) 58)) := by
  obtain ⟨i0, hi, hz0, hz1, hz2⟩ := info_parts infoBools
  have := run_make (P := Tryd.prog) w 56 58 i0 (.slice none 0 0) Tryd.underlying56 hi hz0 .i64 .i64 (N : Int) (N : Int) (by omega) (by omega) (by rw [hz2]; omega) (by omega)
  rw [hz1] at this
  simpa [nones, Value.cells] using this
/-- the memory of the reference's Same: the table below H, the rows of what was seen at H and behind, the pairs that are left; of each pair its block and its two numbers -/
structure RsM (w0 W : World) (H N : Nat) (v : Value) (S : Nat → Nat → Bool) (g : Nat → Option Nat) (ls : List (Nat × Nat × Nat)) : Prop where
  bel : Below H w0 W
  sb : ∃ C, W.heap[H]? = some (.cells C 58 (0, 0)) ∧ C.size = N ∧ ∀ x, x < N → C[x]? = some (seenV N (g x))
  gb : ∀ x b, g x = some b → x < N ∧ H < b ∧ ∃ C, W.heap[b]? = some (.cells C 4 (0, 0)) ∧ C.size = N ∧ ∀ y, y < N → C[y]? = some (.bool (S x y))
  gn : ∀ x, g x = none → ∀ y, S x y = false
  gi : ∀ x x' b, g x = some b → g x' = some b → x = x'
  own : W.ownsRow (H + 1) 24 1 v ls.length (ls.map pairV)
  qb : ∀ p ∈ ls, H < p.1 ∧ W.heap[p.1]? = some (.cells #[.int .i64 (p.2.1 : Nat), .int .i64 (p.2.2 : Nat)] 3 (0, 0))
theorem RsM.lt {w0 W : World} {H N : Nat} {v : Value} {S : Nat → Nat → Bool} {g : Nat → Option Nat} {ls : List (Nat × Nat × Nat)} (h : RsM w0 W H N v S g ls) : H < W.heap.size := by
  obtain ⟨C, h1, _⟩ := h.sb
  exact (Array.getElem?_eq_some_iff.1 h1).1
/-- whatever world has the same blocks -/
theorem RsM.same {w0 W W' : World} {H N : Nat} {v : Value} {S : Nat → Nat → Bool} {g : Nat → Option Nat} {ls : List (Nat × Nat × Nat)} (h : RsM w0 W H N v S g ls) (hbel : Below H w0 W') (hb : ∀ k, k < W.heap.size → W'.heap[k]? = W.heap[k]?) : RsM w0 W' H N v S g ls := by
  have hs : ∀ {k : Nat} {o : Obj}, W.heap[k]? = some o → W'.heap[k]? = some o := fun {k o} e => by rw [hb k (Array.getElem?_eq_some_iff.1 e).1]; exact e
  refine ⟨hbel, ?_, fun x b e => ?_, h.gn, h.gi, owns_same h.own fun k _ hk => hb k hk, fun p hp => ⟨(h.qb p hp).1, hs (h.qb p hp).2⟩⟩
  · obtain ⟨C, h1, h2⟩ := h.sb
    exact ⟨C, hs h1, h2⟩
  · obtain ⟨h1, h2, C, h3, h4⟩ := h.gb x b e
    exact ⟨h1, h2, C, hs h3, h4⟩
theorem RsM.ext {w0 W W' : World} {H N : Nat} {v : Value} {S : Nat → Nat → Bool} {g : Nat → Option Nat} {ls : List (Nat × Nat × Nat)} (h : RsM w0 W H N v S g ls) (hb : Below W.heap.size W W') : RsM w0 W' H N v S g ls :=
  h.same (h.bel.trans (hb.mono (Nat.le_of_lt h.lt))) (fun k hk => hb.block k hk)
theorem RsM.seen {w0 W : World} {H N : Nat} {v : Value} {S : Nat → Nat → Bool} {g : Nat → Option Nat} {ls : List (Nat × Nat × Nat)} (h : RsM w0 W H N v S g ls) {x : Nat} (hx : x < N) : W.cell? ⟨H, x, none⟩ = some (seenV N (g x)) ∧ W.frozen? ⟨H, x, none⟩ = false := by
  obtain ⟨C, h1, h2, h3⟩ := h.sb
  exact ⟨(cell_of_row W H x C _ (0, 0) h1).trans (h3 x hx), by simp [World.frozen?, h1]⟩
theorem RsM.bit {w0 W : World} {H N : Nat} {v : Value} {S : Nat → Nat → Bool} {g : Nat → Option Nat} {ls : List (Nat × Nat × Nat)} (h : RsM w0 W H N v S g ls) {x y b : Nat} (e : g x = some b) (hy : y < N) : W.cell? ⟨b, y, none⟩ = some (.bool (S x y)) ∧ W.frozen? ⟨b, y, none⟩ = false ∧ b < W.heap.size ∧ H < b := by
  obtain ⟨_, hH, C, h1, h2, h3⟩ := h.gb x b e
  exact ⟨(cell_of_row W b y C _ (0, 0) h1).trans (h3 y hy), by simp [World.frozen?, h1], (Array.getElem?_eq_some_iff.1 h1).1, hH⟩
theorem RsM.pop {w0 W : World} {H N : Nat} {v : Value} {S : Nat → Nat → Bool} {g : Nat → Option Nat} {ls : List (Nat × Nat × Nat)} {q x y : Nat} (h : RsM w0 W H N v S g (ls ++ [(q, x, y)])) :
    ∃ b cap, v = .slice (some ⟨b, 0, none⟩) (ls.length + 1) cap ∧ ls.length + 1 ≤ cap ∧ cap ≤ maxLen ∧ b < W.heap.size ∧ q < W.heap.size ∧ W.cell? ⟨b, ls.length, none⟩ = some (.slice (some ⟨q, 0, none⟩) 2 2) ∧ W.cell? ⟨q, 0, none⟩ = some (.int .i64 (x : Nat)) ∧ W.cell? ⟨q, 1, none⟩ = some (.int .i64 (y : Nat)) ∧ RsM w0 W H N (.slice (some ⟨b, 0, none⟩) ls.length cap) S g ls := by
  obtain ⟨h1, h2, h3, h4, h5, ⟨ho1, ho2⟩, h7⟩ := h
  obtain ⟨_, hq⟩ := h7 (q, x, y) (by simp)
  have c0 : W.cell? ⟨q, 0, none⟩ = some (.int .i64 (x : Nat)) := (cell_of_row W q 0 _ _ (0, 0) hq).trans rfl
  have c1 : W.cell? ⟨q, 1, none⟩ = some (.int .i64 (y : Nat)) := (cell_of_row W q 1 _ _ (0, 0) hq).trans rfl
  rcases ho2 with ⟨_, hn⟩ | ⟨b, cap, cur, rfl, hB, hgg, q1, q2, q3, q4⟩
  · simp at hn
  · simp only [List.length_append, List.length_singleton, List.map_append, List.map_cons, List.map_nil, Nat.mul_one] at *
    have hat : cur[ls.length]? = some (pairV (q, x, y)) := by
      have e : (cur.toList.take (ls.length + 1))[ls.length]? = cur[ls.length]? := by
        rw [List.getElem?_take_of_lt (by omega), Array.getElem?_toList]
      rw [← e, q4, List.getElem?_append_right (by simp)]
      simp
    refine ⟨b, cap, rfl, q1, q2, (Array.getElem?_eq_some_iff.1 hgg).1, (Array.getElem?_eq_some_iff.1 hq).1, ?_, c0, c1, h1, h2, h3, h4, h5, ⟨by simp, .inr ⟨b, cap, cur, rfl, hB, hgg, by omega, q2, by omega, ?_⟩⟩, fun p hp => h7 p (by simp [hp])⟩
    · rw [cell_of_row W b _ cur _ (0, 0) hgg, hat]; rfl
    · have : cur.toList.take ls.length = (cur.toList.take (ls.length + 1)).take ls.length := by
        rw [List.take_take]; congr 1; omega
      rw [Nat.mul_one, this, q4, List.take_left' (by simp)]
/-- a row for x is made -/
theorem RsM.fresh {w0 W : World} {H N : Nat} {v : Value} {S : Nat → Nat → Bool} {g : Nat → Option Nat} {ls : List (Nat × Nat × Nat)} (h : RsM w0 W H N v S g ls) {x : Nat} (hx : x < N) (e : g x = none) :
    RsM w0 ((W.alloc (.cells (falses N) 4)).setCell ⟨H, x, none⟩ (.slice (some ⟨W.heap.size, 0, none⟩) N N)) H N v S (fun z => if z = x then some W.heap.size else g z) ls := by
  have hH := h.lt
  have h' := h.ext (below1 W (.cells (falses N) 4))
  have hnew := heap_alloc_new W (.cells (falses N) 4)
  generalize W.alloc (.cells (falses N) 4) = W1 at *
  obtain ⟨C, c1, c2, c3⟩ := h'.sb
  have ho : ∀ {k : Nat} {o : Obj}, k ≠ H → W1.heap[k]? = some o → (W1.setCell ⟨H, x, none⟩ (.slice (some ⟨W.heap.size, 0, none⟩) N N)).heap[k]? = some o := fun {k o} hk hq => by
    rw [heap_setCell_other W1 ⟨H, x, none⟩ k _ hk]; exact hq
  have hgl : ∀ z b, g z = some b → b < W.heap.size := fun z b q => by
    obtain ⟨_, _, C, q1, _⟩ := h.gb z b q
    exact (Array.getElem?_eq_some_iff.1 q1).1
  refine ⟨Below.setCell (p := ⟨H, x, none⟩) h'.bel (Nat.le_refl _) _, ⟨_, heap_setCell_same W1 H x C _ _ c1, by simp [c2], fun z hz => ?_⟩, fun z b q => ?_, fun z q y => ?_, fun z z' b q q' => ?_, ?_, fun p hp => ⟨(h'.qb p hp).1, ho (by have := (h'.qb p hp).1; omega) (h'.qb p hp).2⟩⟩
  · rw [Array.getElem?_setIfInBounds]
    by_cases ez : x = z
    · rw [if_pos ez, if_pos (by omega), if_pos ez.symm]; rfl
    · rw [if_neg ez, if_neg (fun q => ez q.symm), c3 z hz]
  · by_cases ez : z = x
    · rw [if_pos ez] at q
      simp only [Option.some.injEq] at q
      subst q
      subst ez
      refine ⟨hx, hH, falses N, ho (by omega) hnew, by simp [falses, madeCells], fun y hy => ?_⟩
      rw [h.gn z e y]
      simp [falses, madeCells, hy, Nat.mod_one]
    · rw [if_neg ez] at q
      obtain ⟨q1, q2, D, q3, q4⟩ := h'.gb z b q
      exact ⟨q1, q2, D, ho (by omega) q3, q4⟩
  · by_cases ez : z = x
    · rw [if_pos ez] at q; cases q
    · rw [if_neg ez] at q; exact h.gn z q y
  · by_cases ez : z = x
    · rw [if_pos ez] at q
      simp only [Option.some.injEq] at q
      by_cases ez' : z' = x
      · rw [ez, ez']
      · rw [if_neg ez'] at q'
        have := hgl z' b q'
        omega
    · rw [if_neg ez] at q
      by_cases ez' : z' = x
      · rw [if_pos ez'] at q'
        simp only [Option.some.injEq] at q'
        have := hgl z b q
        omega
      · rw [if_neg ez'] at q'
        exact h.gi z z' b q q'
  · exact owns_same h'.own fun k hk hk' => heap_setCell_other W1 ⟨H, x, none⟩ k _ (by show k ≠ H; omega)
/-- a pair is marked -/
theorem RsM.mark {w0 W : World} {H N : Nat} {v : Value} {S : Nat → Nat → Bool} {g : Nat → Option Nat} {ls : List (Nat × Nat × Nat)} (h : RsM w0 W H N v S g ls) {x y b : Nat} (hx : x < N) (hy : y < N) (e : g x = some b) :
    RsM w0 (W.setCell ⟨b, y, none⟩ (.bool true)) H N v (markS S x y) g ls := by
  obtain ⟨_, hHb, D, d1, d2, d3⟩ := h.gb x b e
  have ho : ∀ {k : Nat} {o : Obj}, k ≠ b → W.heap[k]? = some o → (W.setCell ⟨b, y, none⟩ (.bool true)).heap[k]? = some o := fun {k o} hk hq => by
    rw [heap_setCell_other W ⟨b, y, none⟩ k _ hk]; exact hq
  refine ⟨Below.setCell (p := ⟨b, y, none⟩) h.bel (Nat.le_of_lt hHb) _, ?_, fun z c q => ?_, fun z q u => ?_, h.gi, ?_, fun p hp => ⟨(h.qb p hp).1, ho (blocks_ne (h.qb p hp).2 d1 (by decide)) (h.qb p hp).2⟩⟩
  · obtain ⟨C, c1, c2⟩ := h.sb
    exact ⟨C, ho (by omega) c1, c2⟩
  · obtain ⟨q1, q2, E, q3, q4, q5⟩ := h.gb z c q
    by_cases ez : c = b
    · subst ez
      obtain rfl := h.gi z x c q e
      refine ⟨q1, q2, _, heap_setCell_same W c y D _ _ d1, by simp [d2], fun u hu => ?_⟩
      rw [Array.getElem?_setIfInBounds]
      unfold markS
      by_cases eu : y = u
      · rw [if_pos eu, if_pos (by omega), if_pos ⟨rfl, eu.symm⟩]
      · rw [if_neg eu, if_neg (fun q => eu q.2.symm), d3 u hu]
    · refine ⟨q1, q2, E, ho ez q3, q4, fun u hu => ?_⟩
      have : z ≠ x := fun q' => ez (by subst q'; rw [e] at q; exact (Option.some.inj q).symm)
      unfold markS
      rw [if_neg (fun q => this q.1), q5 u hu]
  · have : z ≠ x := fun q' => by subst q'; rw [e] at q; cases q
    unfold markS
    rw [if_neg (fun q => this q.1), h.gn z q u]
  · rcases h.own with ⟨o1, o2⟩
    refine ⟨o1, ?_⟩
    rcases o2 with o2 | ⟨k, cap, cur, rfl, hB, hgg, rest⟩
    · exact .inl o2
    · exact .inr ⟨k, cap, cur, rfl, hB, ho (blocks_ne hgg d1 (by decide)) hgg, rest⟩
/-- a pair is put behind -/
theorem RsM.push {w0 W W2 w4 : World} {H N : Nat} {v : Value} {S : Nat → Nat → Bool} {g : Nat → Option Nat} {ls : List (Nat × Nat × Nat)} {q x y : Nat} (h : RsM w0 W H N v S g ls) (hb2 : Below W.heap.size W W2)
    (hq : W2.heap[q]? = some (.cells #[.int .i64 (x : Nat), .int .i64 (y : Nat)] 3 (0, 0))) (hqH : H < q) (hg : W2.grownBy w4 v.ownBlock) {k cap : Nat}
    (hown : w4.ownsRow (H + 1) 24 1 (.slice (some ⟨k, 0, none⟩) (ls.length + 1) cap) (ls.length + 1) (ls.map pairV ++ [pairV (q, x, y)])) : RsM w0 w4 H N (.slice (some ⟨k, 0, none⟩) (ls.length + 1) cap) S g (ls ++ [(q, x, y)]) := by
  have h2 := h.ext hb2
  have hz := h2.lt
  have hs : ∀ {k : Nat} {C : Array Value} {t : TypeId}, W2.heap[k]? = some (.cells C t (0, 0)) → t ≠ 24 → w4.heap[k]? = some (.cells C t (0, 0)) := fun {k C t} q ht => by
    rw [hg.block k (Array.getElem?_eq_some_iff.1 q).1 (fun e => ?_)]
    · exact q
    · rcases h2.own.2 with ⟨rfl, _⟩ | ⟨k', cap, cur, rfl, hB, hgg, _⟩
      · cases e
      · simp only [Value.ownBlock, Option.some.injEq] at e
        subst e
        exact blocks_ne q hgg ht rfl
  refine ⟨h2.bel.grown hg (Nat.le_of_lt hz) (fun k hk => by have := (owns_block h2.own hk).1; omega), ?_, fun z b e => ?_, h.gn, h.gi, ?_, fun p hp => ?_⟩
  · obtain ⟨C, c1, c2⟩ := h2.sb
    exact ⟨C, hs c1 (by decide), c2⟩
  · obtain ⟨q1, q2, E, q3, q4⟩ := h2.gb z b e
    exact ⟨q1, q2, E, hs q3 (by decide), q4⟩
  · rw [List.length_append, List.map_append]
    exact hown
  · rw [List.mem_append, List.mem_singleton] at hp
    rcases hp with hp | rfl
    · exact ⟨(h2.qb p hp).1, hs (h2.qb p hp).2 (by decide)⟩
    · exact ⟨hqH, hs hq (by decide)⟩
end Go.Proofs.YtllgaholkminnaaDoor
