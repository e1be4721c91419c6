import Derived.Test.YteinpijbdgcehaaCOR3
namespace Go.Proofs.Yteinpijbdgcehaa
open Go.RowKit Go.Shelf
set_option linter.unusedVariables false
set_option linter.unusedSimpArgs false
attribute [local go_sem] Oper.semAt_some

/-! ### the pairs of an arm that sends -/
def pf (rs : List (Int × Nat × Int)) (t : Int × Nat × Int) : List OPr := ((onCh rs t.2.2).filter fun x => x.1 != t.1).map fun x => ⟨t.1, t.2.1, x.1, x.2, t.2.2⟩
theorem onCh_flat (l : List OWt) (hr : oright l = true) (ch : Int) (hc : 0 < ch) : onCh (spotsP prR l) ch = l.flatMap fun Q => ofm (fun j b => if b.send = false ∧ b.chan = ch then [(Q.id, j)] else []) 0 Q.arms := by
  unfold onCh spotsP
  rw [if_pos hr, filter_flat, List.map_flatMap]
  refine flat_congr (fun Q _ => ?_)
  rw [filter_ofm, ofm_map]
  refine ofm_congr (fun j b => ?_) _ _
  cases hs : b.send
  · by_cases h : b.chan = ch
    · subst h
      simp [prR, hs, hc]
    · simp only [h, and_false, if_false]
      cases prR b
      · simp
      · simp [h]
  · simp [prR, hs]
theorem pf_oarm (l : List OWt) (hr : oright l = true) (P : OWt) (i : Nat) (a : OArm) (hs : prS a = true) : oarm l P i a = pf (spotsP prR l) (P.id, i, a.chan) := by
  have hs2 : a.send = true ∧ 0 < a.chan := by simpa [prS] using hs
  unfold oarm pf
  rw [if_pos hs2, onCh_flat l hr a.chan hs2.2, filter_flat, List.map_flatMap]
  refine flat_congr (fun Q _ => ?_)
  unfold omeet
  rw [filter_ofm, ofm_map]
  by_cases h : Q.id = P.id
  · rw [if_pos h]
    symm
    rw [show (ofm (fun j b => (((if b.send = false ∧ b.chan = a.chan then [(Q.id, j)] else []).filter fun x => x.1 != P.id).map fun x => (⟨P.id, i, x.1, x.2, a.chan⟩ : OPr))) 0 Q.arms) = ofm (fun _ _ => []) 0 Q.arms from ofm_congr (fun j b => by split <;> simp [h]) _ _]
    exact ofm_nil _ _
  · rw [if_neg h]
    refine ofm_congr (fun j b => ?_) _ _
    split
    · simp [h]
    · rfl
theorem opairs_flat (l : List OWt) : opairs l = (spotsP prS l).flatMap (pf (spotsP prR l)) := by
  unfold opairs
  cases hr : oright l
  · simp [spotsP, hr]
  · rw [if_pos rfl]
    unfold oall
    have e1 : spotsP prS l = l.flatMap fun V => ofm (fun i a => if prS a then [(V.id, i, a.chan)] else []) 0 V.arms := by unfold spotsP; rw [if_pos hr]
    rw [e1, List.flatMap_assoc]
    refine flat_congr (fun P _ => ?_)
    have key : ∀ (xs : List OArm) (n : Nat), ofm (oarm l P) n xs = (ofm (fun i a => if prS a then [(P.id, i, a.chan)] else []) n xs).flatMap (pf (spotsP prR l)) := by
      intro xs
      induction xs with
      | nil => intro n; rfl
      | cons a r ih =>
        intro n
        rw [ofm, ofm, List.flatMap_append, ih]
        congr 1
        cases hs : prS a
        · unfold oarm
          rw [if_neg (by simpa [prS] using hs)]
          rfl
        · rw [pf_oarm l hr P n a hs]
          simp
    exact key P.arms 0
/-- the groups' own places -/
def gp (t : Int × Nat × Int) (g : OGr) : List OPr := g.places.map fun j => ⟨t.1, t.2.1, g.id, j, t.2.2⟩
def pid (x : Int) (g : OGr) : Bool := g.id != x
theorem gp_flat (gs : List OGr) (t : Int × Nat × Int) : (gs.filter (pid t.1)).flatMap (gp t) = ((flatG gs).filter fun x => x.1 != t.1).map fun x => ⟨t.1, t.2.1, x.1, x.2, t.2.2⟩ := by
  induction gs with
  | nil => rfl
  | cons g r ih =>
    have e : flatG (g :: r) = (g.places.map fun j => (g.id, j)) ++ flatG r := by simp [flatG]
    rw [e, List.filter_append, List.map_append, ← ih, List.filter_cons]
    by_cases h : g.id = t.1
    · rw [if_neg (by simp [pid, h]), filter_none (l := g.places.map fun j => (g.id, j)) (fun x hx => by obtain ⟨j, _, rfl⟩ := List.mem_map.1 hx; simp [h])]
      rfl
    · rw [if_pos (by simp [pid, h]), List.flatMap_cons, filter_all (l := g.places.map fun j => (g.id, j)) (fun x hx => by obtain ⟨j, _, rfl⟩ := List.mem_map.1 hx; simp [h])]
      simp [gp]
theorem len_take_flat {α β : Type} (f : α → List β) (l : List α) (k : Nat) : ((l.take k).flatMap f).length ≤ (l.flatMap f).length := by
  have : (l.flatMap f).length = ((l.take k).flatMap f).length + ((l.drop k).flatMap f).length := by
    rw [← List.length_append, ← List.flatMap_append, List.take_append_drop]
  omega
theorem ofm_filter {α : Type} (pr : α → Bool) : ∀ (l : List α) (n : Nat), ofm (fun _ a => if pr a then [a] else []) n l = l.filter pr
  | [], n => rfl
  | a :: r, n => by
    rw [ofm, ofm_filter pr r, List.filter_cons]
    cases pr a <;> rfl
theorem th_filter (pr : OGr → Bool) (l : List OGr) (k : Nat) (x : Array Value) (h : (thX grpV pr l)[k]? = some x) : ∃ (i : Nat) (g : OGr), x = #[.int .i64 i, grpV g] ∧ (l.filter pr)[k]? = some g := by
  obtain ⟨i, g, _, _, h3, h4⟩ := ofm_two (fun i a => #[Value.int .i64 i, grpV a]) (fun _ a => a) pr l 0 k x h
  rw [ofm_filter] at h4
  exact ⟨0 + i, g, h3, h4⟩
theorem th_len (pr : OGr → Bool) (l : List OGr) : (thX grpV pr l).length = (l.filter pr).length := by
  rw [← ofm_filter pr l 0]
  exact ofm_len2 _ _ pr l 0 0
/-! ### in memory -/
theorem RcI.grps {W : World} {base mb k : Nat} {ts : List (Int × Nat × Int)} {own : Nat → Option (Int × Option Nat)} {M : Int → Value} {gs : Int → List OGr} (h : RcI W base mb k ts own M gs) (ch : Int) {p : Option Addr} {c : Nat} (hM : M ch = .slice p (gs ch).length c) (hc : (gs ch).length ≤ c) (hx : c ≤ maxLen) : GrpsIn W (fun b => own b ≠ none) p c (gs ch) := by
  refine ⟨hc, hx, fun i hi => ?_⟩
  have hrow := h.rows.row ch
  rw [hM] at hrow
  rcases hrow.2 with ⟨e, e2⟩ | ⟨g, cap, cur, e, _⟩
  · omega
  · cases e
    refine ⟨g, 0, rfl, by rw [h.rows.rl ch g (by rw [hM]; rfl)]; simp, ?_⟩
    have h1 := grsC_at (gs ch) i hi
    refine ⟨by rw [Nat.zero_add]; exact (own_cell hrow h1.1).1, by rw [Nat.zero_add]; exact (own_cell hrow h1.2).1, ?_⟩
    have hpr := h.rows.prow ch i hi
    have hpl := h.rows.pl ch i hi
    generalize (gs ch)[i] = q at *
    rcases hpr.2 with ⟨e, e2⟩ | ⟨g2, cap2, cur2, e, _, _, q5, q6, _⟩
    · injection e with e3 e4 e5
      exact ⟨by omega, by rw [e5]; simp [maxLen], fun j hj => by omega⟩
    · injection e with e3 e4 e5
      rw [e3] at hpr hpl ⊢
      refine ⟨by rw [e5]; exact q5, by rw [e5]; exact q6, fun j hj => ⟨g2, 0, rfl, by rw [hpl g2 rfl]; simp, ?_⟩⟩
      rw [Nat.zero_add]
      have h2 : (plsC q.places)[j]? = some (.int .i64 (q.places[j] : Nat)) := by simp [plsC, hj]
      exact (own_cell hpr h2).1
theorem Sep.grown {hi : Nat} {G G' : Nat → Prop} {A B C : World} {row : Option Nat} (h : Sep hi G G' A B) (hg : B.grownBy C row) (hr : ∀ r, row = some r → A.heap.size ≤ r) : Sep hi G G' A C :=
  ⟨Nat.le_trans h.size hg.size, fun b o h1 h2 h3 => grownBy_oth hg (h.same b o h1 h2 h3) (fun e => by have := hr b e; have := (Array.getElem?_eq_some_iff.1 h1).1; omega), fun b o h1 h2 h3 => grownBy_oth hg (h.oth b o h1 h2 h3) (fun e => by have := hr b e; have := (Array.getElem?_eq_some_iff.1 h1).1; omega), h.new⟩

set_option maxRecDepth 100000 in
set_option maxHeartbeats 2000000 in
theorem another_any (g : OGr) (x : Int) (tb : Nat) (w : World) (h : w.cell? ⟨tb, 0, none⟩ = some (.int .i64 x)) (ht : tb < w.heap.size) : Calls Try.prog 25 #[grpV g, .pointer (some ⟨tb, 0, none⟩)] w fun e w' => e = .returned (.bool (pid x g)) ∧ Below w.heap.size w w' := by
  obtain ⟨id, pl, q, c⟩ := g
  have h2 : (w.alloc (.cells #[.int .i64 id, .slice q pl.length c] 61)).cell? ⟨tb, 0, none⟩ = some (.int .i64 x) := ((below1 w _).cell (p := ⟨tb, 0, none⟩) ht).trans h
  have HB : Bx (Below w.heap.size w (w.alloc (.cells #[.int .i64 id, .slice q pl.length c] 61))) := ⟨below1 _ _⟩
  simp only [grpV, pid]
  clear h ht
  go_enter Try.func25, Try.ntmps25
  go_wp2
  go_ret
  exact ⟨rfl, HB.out⟩
set_option maxRecDepth 100000 in
theorem thoseG_mk (n : Nat) (p : Option Addr) (k c hf : Nat) (hlb : Array Value) (w : World) :
    CallsIn Fence.wide n Try.prog 26 #[.slice p k c, .func (.func hf) #[] hlb] w fun e w' => e = .returned (.func (.func 35) #[] #[.pointer (some ⟨w.heap.size, 0, none⟩), .pointer (some ⟨w.heap.size + 1, 0, none⟩)]) ∧ w' = (w.alloc (.cells #[.slice p k c] 66)).alloc (.cells #[.func (.func hf) #[] hlb] 62) := by
  refine callsIn_of_wp Try.func26 rfl trivial ?_ rfl
  simp only [Try.ntmps26, List.size_toArray, List.length_cons, List.length_nil, Nat.reduceAdd, Nat.reduceSub, Array.replicate_succ, Array.replicate_zero, List.push_toArray, List.append_toArray, List.nil_append, List.cons_append]
  gi_wp2
  go_ret
  exact ⟨rfl, rfl⟩
end Go.Proofs.Yteinpijbdgcehaa
