import Derived.Test.YtadmpgegolmkgaaDoorCWvP
import Derived.Test.YtadmpgegolmkgaaDoorCWjA
import Derived.Test.YtadmpgegolmkgaaDoorCWjE
namespace Go.Proofs.YtadmpgegolmkgaaDoor
set_option linter.unusedVariables false
set_option linter.unusedSimpArgs false

theorem nodup_len : ∀ (n : Nat) (l : List Int), l.Nodup → (∀ x ∈ l, 0 ≤ x ∧ x < (n : Int)) → l.length ≤ n
  | 0, l, _, h => by
    cases l with
    | nil => simp
    | cons a r => have := h a List.mem_cons_self; omega
  | n + 1, l, hd, h => by
    by_cases hm : (n : Int) ∈ l
    · have h1 := nodup_len n (l.erase n) (hd.erase _) fun x hx => by
        have h2 := (List.Nodup.mem_erase_iff hd).1 hx
        have := h x h2.2
        omega
      rw [List.length_erase_of_mem hm] at h1
      omega
    · have h1 := nodup_len n l hd fun x hx => by
        have h2 := h x hx
        have : x ≠ n := fun e => hm (e ▸ hx)
        omega
      omega
/-- how many kids of a row are not known to have a default value -/
def cN (ts : List CTy) (has : Nat → Bool) (w : Nat) : Nat := (tyA ts w).kids.countP fun k => !has k.toNat
structure D3 (ts : List CTy) (has : Nat → Bool) (rem : List Int) (ms : Nat → Int) (fd : List Int) : Prop where
  em : ∀ w, ms w = if isTu ts w then (cN ts has w : Int) + rem.count (w : Int) else 0
  rr : ∀ w ∈ rem, 0 ≤ w ∧ w < (ts.length : Int) ∧ isTu ts w.toNat
  nd : fd.Nodup
  ef : ∀ w ∈ fd, 0 ≤ w ∧ w < (ts.length : Int) ∧ has w.toNat = false ∧ ms w.toNat = 0
  hm : ∀ w, has w = true → ms w = 0
theorem D3.step {ts : List CTy} {has : Nat → Bool} {w : Int} {rem : List Int} {ms : Nat → Int} {fd : List Int} (h : D3 ts has (w :: rem) ms fd) : D3 ts has rem (fup ms w.toNat (ms w.toNat - 1)) (if ms w.toNat - 1 = 0 then fd ++ [w] else fd) ∧ 1 ≤ ms w.toNat ∧ ms w.toNat ≤ cN ts has w.toNat + (w :: rem).length := by
  obtain ⟨r1, r2, r3⟩ := h.rr w List.mem_cons_self
  have hw : ((w.toNat : Nat) : Int) = w := by omega
  have hmw := h.em w.toNat
  rw [if_pos r3, hw, List.count_cons_self] at hmw
  have hcl := List.count_le_length (a := w) (l := rem)
  refine ⟨⟨fun v => ?_, fun v hv => h.rr v (List.mem_cons_of_mem _ hv), ?_, fun v hv => ?_, fun v hv => ?_⟩, by omega, by simp; omega⟩
  · by_cases hv : v = w.toNat
    · subst hv
      rw [fup_same, if_pos r3, hw]
      omega
    · rw [fup_ne _ _ hv, h.em v]
      have : ¬ w = (v : Int) := by omega
      rw [List.count_cons]
      simp [this]
  · split
    · rename_i h0
      rw [List.nodup_append]
      refine ⟨h.nd, by simp, fun a ha b hb => ?_⟩
      simp at hb
      intro e
      have := (h.ef a ha).2.2.2
      rw [e, hb] at this
      omega
    · exact h.nd
  · have hold : v ∈ fd → 0 ≤ v ∧ v < (ts.length : Int) ∧ has v.toNat = false ∧ fup ms w.toNat (ms w.toNat - 1) v.toNat = 0 := fun hv => by
      obtain ⟨a1, a2, a3, a4⟩ := h.ef v hv
      refine ⟨a1, a2, a3, ?_⟩
      rw [fup_ne _ _ (fun e => by rw [e] at a4; omega)]
      exact a4
    split at hv
    · rename_i h0
      rcases List.mem_append.1 hv with e | e
      · exact hold e
      · simp at e
        subst e
        refine ⟨r1, r2, ?_, by rw [fup_same]; exact h0⟩
        cases hh : has v.toNat with
        | false => rfl
        | true => have := h.hm _ hh; omega
    · exact hold hv
  · have h0 := h.hm v hv
    rw [fup_ne _ _ (fun e => by rw [e] at h0; omega)]
    exact h0
structure D2 (ts : List CTy) (s : DfS) : Prop where
  whr : ∀ x, ∀ w ∈ s.wh x, 0 ≤ w ∧ w < (ts.length : Int) ∧ isTu ts w.toNat
  whc : ∀ (x w : Nat), (s.wh x).count (w : Int) = if w < ts.length ∧ isTu ts w then kc ts w x else 0
  d3 : D3 ts s.has [] s.ms s.fd
theorem tu_lt {ts : List CTy} {w : Nat} (h : isTu ts w) : w < ts.length := by
  rcases Nat.lt_or_ge w ts.length with e | e
  · exact e
  · unfold isTu tyA at h
    rw [List.getD_eq_getElem?_getD, List.getElem?_eq_none e] at h
    simp [tyD] at h
theorem D1.two {ts : List CTy} {s : DfS} (h : D1 ts ts.length s) : D2 ts s := by
  refine ⟨h.whr, h.whc, ⟨fun w => ?_, fun w hw => by simp at hw, h.fd.1, fun w hw => ?_, fun w hw => ?_⟩⟩
  · rw [h.ms]
    by_cases ht : isTu ts w
    · rw [if_pos ⟨tu_lt ht, ht⟩, if_pos ht]
      have : cN ts s.has w = (tyA ts w).kids.length := by
        unfold cN
        rw [List.countP_eq_length]
        intro k hk
        simp [h.has]
      rw [this]
      simp
    · rw [if_neg fun e => ht e.2, if_neg ht]
  · obtain ⟨a1, a2, a3⟩ := h.fd.2 w hw
    refine ⟨a1, a2, h.has _, ?_⟩
    rw [h.ms, if_neg fun e => a3 e.2]
  · rw [h.has] at hw
    cases hw
theorem cN_take {ts : List CTy} (hv : TsV ts) {has : Nat → Bool} {x : Nat} (hx : has x = false) (w : Nat) : cN ts has w = cN ts (fup has x true) w + kc ts w x := by
  unfold cN kc
  have hk := hv.kids w
  generalize (tyA ts w).kids = l at *
  induction l with
  | nil => rfl
  | cons k r ih =>
    have h0 := hk k List.mem_cons_self
    have := ih fun j hj => hk j (List.mem_cons_of_mem _ hj)
    rw [List.countP_cons, List.countP_cons, List.count_cons, this]
    by_cases hkx : k.toNat = x
    · have e : k = (x : Int) := by omega
      subst e
      simp [fup, hx]
      omega
    · have e : ¬ k = (x : Int) := by omega
      simp [fup, hkx, e]
      omega
theorem D2.pop {ts : List CTy} {s : DfS} (h : D2 ts s) (hv : TsV ts) {rest : List Int} {x : Int} (hf : s.fd = rest ++ [x]) : 0 ≤ x ∧ x < (ts.length : Int) ∧ s.has x.toNat = false ∧ D3 ts (fup s.has x.toNat true) (s.wh x.toNat) s.ms rest := by
  have hx : x ∈ s.fd := by rw [hf]; simp
  obtain ⟨a1, a2, a3, a4⟩ := h.d3.ef x hx
  have hnd := h.d3.nd
  rw [hf, List.nodup_append] at hnd
  have hxe : ((x.toNat : Nat) : Int) = x := by omega
  refine ⟨a1, a2, a3, ⟨fun w => ?_, h.whr _, hnd.1, fun w hw => ?_, fun w hw => ?_⟩⟩
  · have e1 := h.d3.em w
    rw [e1]
    by_cases ht : isTu ts w
    · rw [if_pos ht, if_pos ht, cN_take hv a3 w, h.whc, if_pos ⟨tu_lt ht, ht⟩]
      simp
    · rw [if_neg ht, if_neg ht]
  · obtain ⟨b1, b2, b3, b4⟩ := h.d3.ef w (by rw [hf]; exact List.mem_append.2 (.inl hw))
    refine ⟨b1, b2, ?_, b4⟩
    have : w ≠ x := hnd.2.2 w hw x (by simp)
    rw [fup_ne _ _ (by omega)]
    exact b3
  · by_cases e : w = x.toNat
    · subst e; exact a4
    · rw [fup_ne _ _ e] at hw
      exact h.d3.hm w hw
def cH (n : Nat) (has : Nat → Bool) : Nat := (List.range n).countP fun i => !has i
theorem cH_pop {n x : Nat} {has : Nat → Bool} (hx : x < n) (h : has x = false) : cH n has = cH n (fup has x true) + 1 :=
  cnt_one hx (by simp [h]) (by simp [fup]) fun j hj => by simp [fup, hj]
theorem cH_le (n : Nat) (has : Nat → Bool) : cH n has ≤ n := by
  have := List.countP_le_length (p := fun i => !has i) (l := List.range n)
  simpa [cH] using this
/-- more fuel tells the same -/
theorem df2_step {ts : List CTy} {s : DfS} (hv : TsV ts) (h : D2 ts s) {rest : List Int} {x : Int} (hf : s.fd = rest ++ [x]) (f : Nat) : df2All (f + 1) s = df2All f (df2 s x.toNat rest) := by
  rw [df2All, hf]
  simp
theorem df2_done {s : DfS} (hf : s.fd = []) (f : Nat) : df2All f s = s := by
  cases f with
  | zero => rfl
  | succ f => rw [df2All, hf]; rfl
end Go.Proofs.YtadmpgegolmkgaaDoor
namespace Go.Proofs.YtadmpgegolmkgaaDoor
open Go.RowKit
set_option linter.unusedVariables false
set_option linter.unusedSimpArgs false

/-! ### rows in memory by functions -/
def rowF (n : Nat) (f : Nat → Value) : Array Value := ((List.range n).map f).toArray
theorem rowF_size (n : Nat) (f : Nat → Value) : (rowF n f).size = n := by simp [rowF]
theorem rowF_at {n : Nat} {f : Nat → Value} {i : Nat} (h : i < n) : (rowF n f)[i]? = some (f i) := by simp [rowF, h]
theorem rowF_set {n : Nat} {f : Nat → Value} {i : Nat} (h : i < n) (v : Value) : (rowF n f).setIfInBounds i v = rowF n (fup f i v) := by
  apply Array.ext_getElem?
  intro j
  by_cases hj : j < n
  · rw [rowF_at hj]
    by_cases e : i = j
    · subst e
      rw [Array.getElem?_setIfInBounds_self, rowF_size, if_pos h, fup_same]
    · rw [Array.getElem?_setIfInBounds_ne e, rowF_at hj, fup_ne _ _ (fun q => e q.symm)]
  · rw [Array.getElem?_eq_none (by simp [rowF_size]; omega), Array.getElem?_eq_none (by rw [rowF_size]; omega)]
theorem made_row (z : Value) (n : Nat) : madeCells #[z] n = rowF n fun _ => z := by
  apply Array.ext_getElem?
  intro j
  by_cases hj : j < n
  · rw [rowF_at hj]
    simp [madeCells, hj, Nat.mod_one]
  · rw [Array.getElem?_eq_none (by rw [size_madeCells]; omega), Array.getElem?_eq_none (by rw [rowF_size]; omega)]
theorem infoInt : (Tryd.prog.info? 3).map (fun i => (i.zero, i.size, i.bytes)) = some (some (.int .i64 0), 1, 8) := by kernel_rfl
theorem infoBool : (Tryd.prog.info? 4).map (fun i => (i.zero, i.size, i.bytes)) = some (some (.bool false), 1, 1) := by kernel_rfl
theorem infoSli : (Tryd.prog.info? 32).map (fun i => (i.zero, i.size, i.bytes)) = some (some (.slice none 0 0), 1, 24) := by kernel_rfl
theorem make_bF (w : World) (n : Nat) (hn : n ≤ 2147483648) : (Instr.makeSlice 41 (.int .i64 n) (.int .i64 n)).run Tryd.prog w = .ok (.slice (some ⟨w.heap.size, 0, none⟩) n n) (w.alloc (.cells (rowF n fun _ => .bool false) 4)) := by
  obtain ⟨i0, hi, hz0, hz1, hz2⟩ := info_parts infoBool
  have := run_make (P := Tryd.prog) w 41 4 i0 (.bool false) Tryd.underlying41 hi hz0 .i64 .i64 n n (by omega) (by omega) (by rw [hz2]; omega) (by omega)
  rw [hz1] at this
  rw [← made_row]
  simpa [Value.cells] using this
theorem make_iF (w : World) (n : Nat) (hn : n ≤ 2147483648) : (Instr.makeSlice 32 (.int .i64 n) (.int .i64 n)).run Tryd.prog w = .ok (.slice (some ⟨w.heap.size, 0, none⟩) n n) (w.alloc (.cells (rowF n fun _ => .int .i64 0) 3)) := by
  obtain ⟨i0, hi, hz0, hz1, hz2⟩ := info_parts infoInt
  have := run_make (P := Tryd.prog) w 32 3 i0 (.int .i64 0) Tryd.underlying32 hi hz0 .i64 .i64 n n (by omega) (by omega) (by rw [hz2]; omega) (by omega)
  rw [hz1] at this
  rw [← made_row]
  simpa [Value.cells] using this
theorem make_sF (w : World) (n : Nat) (hn : n ≤ 2147483648) : (Instr.makeSlice 103 (.int .i64 n) (.int .i64 n)).run Tryd.prog w = .ok (.slice (some ⟨w.heap.size, 0, none⟩) n n) (w.alloc (.cells (rowF n fun _ => .slice none 0 0) 32)) := by
  obtain ⟨i0, hi, hz0, hz1, hz2⟩ := info_parts infoSli
  have := run_make (P := Tryd.prog) w 103 32 i0 (.slice none 0 0) Tryd.underlying103 hi hz0 .i64 .i64 n n (by omega) (by omega) (by rw [hz2]; omega) (by omega)
  rw [hz1] at this
  rw [← made_row]
  simpa [Value.cells] using this
/-! ### a family of rows of one's own -/
def intL (l : List Int) : List Value := l.map (Value.int .i64)
structure Fam (W : World) (base m : Nat) (va : Nat → Value) (S : Nat → List Int) : Prop where
  own : ∀ r, r < m → W.ownsRow base 3 1 (va r) (S r).length (intL (S r))
  ne : ∀ r r', r < m → r' < m → r ≠ r' → ∀ g, (va r).ownBlock = some g → (va r').ownBlock ≠ some g
theorem Fam.same {W W' : World} {base m : Nat} {va : Nat → Value} {S : Nat → List Int} (h : Fam W base m va S) (hb : ∀ k, base ≤ k → k < W.heap.size → W'.heap[k]? = W.heap[k]?) : Fam W' base m va S :=
  ⟨fun r hr => owns_same (h.own r hr) hb, h.ne⟩
theorem Fam.slice {W : World} {base m : Nat} {va : Nat → Value} {S : Nat → List Int} (h : Fam W base m va S) {r : Nat} (hr : r < m) : ∃ a c, va r = .slice a (S r).length c := owns_slice (h.own r hr)
theorem Fam.push {W : World} {base m : Nat} {va : Nat → Value} {S : Nat → List Int} (h : Fam W base m va S) {r : Nat} (hr : r < m) (hB : base ≤ W.heap.size) (x : Int) (hn : (S r).length ≤ 4294967296) :
    ∃ g c W3, (∀ ty, (Builtin.append_ #[32, 32] ty #[va r, .slice (some ⟨W.heap.size, 0, none⟩) 1 1]).run Tryd.prog (W.alloc (.cells #[.int .i64 x] 3)) = .ok (.slice (some ⟨g, 0, none⟩) ((S r).length + 1) c) W3) ∧ Bx (Fam W3 base m (fup va r (.slice (some ⟨g, 0, none⟩) ((S r).length + 1) c)) (fup S r (S r ++ [x])) ∧ W.grownBy W3 (va r).ownBlock ∧ ∀ k, k < base → W3.heap[k]? = W.heap[k]?) := by
  obtain ⟨i0, hi, hz0, hz1, hz2⟩ := info_parts infoInt
  obtain ⟨g, c, W3, r1, r2, r3, r4, r5⟩ := app1 (t := 32) Tryd.underlying32 hi hz0 hz1 hz2 rfl (by decide) W base (va r) (S r).length (intL (S r)) (h.own r hr) #[.int .i64 x] rfl (by intro u hu; simp at hu; subst hu; rfl) (by unfold maxLen; omega) (by omega) hB
  have hlow : ∀ k, k < base → W3.heap[k]? = W.heap[k]? := fun k hk => r3.block k (by omega) fun e => by
    have := own_base (h.own r hr) k e.symm
    omega
  refine ⟨g, c, W3, r1, ⟨⟨fun q hq => ?_, fun q q' hq hq' hne g' hg => ?_⟩, r3, hlow⟩⟩
  · by_cases e : q = r
    · subst e
      rw [fup_same, fup_same]
      have e2 : intL (S q ++ [x]) = intL (S q) ++ (#[Value.int .i64 x] : Array Value).toList := by simp [intL]
      rw [e2, List.length_append]
      exact r2
    · rw [fup_ne _ _ e, fup_ne _ _ e]
      exact own_same (h.own q hq) fun y o hy ho => grown_at r3 ho fun eq => h.ne q r hq hr e y hy eq
  · by_cases e : q = r
    · subst e
      rw [fup_same] at hg
      rw [fup_ne _ _ (fun e2 => hne e2.symm)]
      simp only [Value.ownBlock, Option.some.injEq] at hg
      subst hg
      rcases r5 with e5 | e5
      · exact h.ne q q' hr hq' hne g e5
      · intro hg'
        have := owns_block (h.own q' hq') hg'
        omega
    · rw [fup_ne _ _ e] at hg
      by_cases e' : q' = r
      · subst e'
        rw [fup_same]
        simp only [Value.ownBlock, ne_eq, Option.some.injEq]
        intro eg
        subst eg
        rcases r5 with e5 | e5
        · exact h.ne q q' hq hr e g hg e5
        · have := owns_block (h.own q hq) hg
          omega
      · rw [fup_ne _ _ e']
        exact h.ne q q' hq hq' hne g' hg
theorem Fam.pop {W : World} {base m : Nat} {va : Nat → Value} {S : Nat → List Int} (h : Fam W base m va S) {r : Nat} (hr : r < m) {rest : List Int} {x : Int} (hs : S r = rest ++ [x]) : ∃ g c, va r = .slice (some ⟨g, 0, none⟩) (rest.length + 1) c ∧ rest.length + 1 ≤ c ∧ W.cell? ⟨g, rest.length, none⟩ = some (.int .i64 x) ∧ g < W.heap.size ∧ Fam W base m (fup va r (.slice (some ⟨g, 0, none⟩) rest.length c)) (fup S r rest) := by
  have ho := h.own r hr
  rw [hs] at ho
  have hl : (rest ++ [x]).length = rest.length + 1 := by simp
  rw [hl] at ho
  obtain ⟨a, c, e⟩ := owns_slice ho
  have ho2 := ho
  rcases ho.2 with ⟨e1, e2⟩ | ⟨g, cap, cur, e1, hg, hb, hcap, _⟩
  · omega
  · rw [e1] at ho
    have hi : intL (rest ++ [x]) = intL rest ++ [.int .i64 x] := by simp [intL]
    refine ⟨g, cap, e1, hcap, owns_cellj ho (by rw [hi, List.getElem?_append_right (by simp [intL])]; simp [intL]), (Array.getElem?_eq_some_iff.1 hb).1, ⟨fun q hq => ?_, fun q q' hq hq' hne g' hg' => ?_⟩⟩
    · by_cases e : q = r
      · subst e
        rw [fup_same, fup_same]
        rw [hi] at ho
        exact owns_cut ho (by simp [intL]) (by omega)
      · rw [fup_ne _ _ e, fup_ne _ _ e]
        exact h.own q hq
    · have hq1 : ∀ q, (fup va r (.slice (some ⟨g, 0, none⟩) rest.length cap) q).ownBlock = (va q).ownBlock := fun q => by
        by_cases e : q = r
        · subst e; rw [fup_same, e1]; rfl
        · rw [fup_ne _ _ e]
      rw [hq1] at hg' ⊢
      exact h.ne q q' hq hq' hne g' hg'
theorem Fam.cell {W : World} {base m : Nat} {va : Nat → Value} {S : Nat → List Int} (h : Fam W base m va S) {r : Nat} (hr : r < m) {i : Nat} (hi : i < (S r).length) : ∃ g c, va r = .slice (some ⟨g, 0, none⟩) (S r).length c ∧ (S r).length ≤ c ∧ g < W.heap.size ∧ W.cell? ⟨g, i, none⟩ = some (.int .i64 (S r)[i]) := by
  have ho := h.own r hr
  rcases ho.2 with ⟨e1, e2⟩ | ⟨g, cap, cur, e1, hg, hb, hcap, _⟩
  · omega
  · rw [e1] at ho
    exact ⟨g, cap, e1, hcap, (Array.getElem?_eq_some_iff.1 hb).1, owns_cellj ho (by simp [intL, hi])⟩
end Go.Proofs.YtadmpgegolmkgaaDoor
namespace Go.Proofs.YtadmpgegolmkgaaDoor
open Go.RowKit
set_option linter.unusedVariables false
set_option linter.unusedSimpArgs false

def famS (n : Nat) (s : DfS) : Nat → List Int := fun r => if r = n then s.fd else s.wh r
structure DfM (w W : World) (hb mb ob base n : Nat) (va : Nat → Value) (s : DfS) : Prop where
  bel : Below w.heap.size w W
  hs : W.heap[hb]? = some (.cells (rowF n fun i => .bool (s.has i)) 4 (0, 0))
  mm : W.heap[mb]? = some (.cells (rowF n fun i => .int .i64 (s.ms i)) 3 (0, 0))
  oo : W.heap[ob]? = some (.cells (rowF n va) 32 (0, 0))
  fam : Fam W base (n + 1) va (famS n s)
  lo : w.heap.size ≤ hb ∧ w.heap.size ≤ mb ∧ w.heap.size ≤ ob
  lt : hb < base ∧ mb < base ∧ ob < base ∧ base ≤ W.heap.size
  ne : hb ≠ mb ∧ hb ≠ ob ∧ mb ≠ ob
theorem rowF_congr {n : Nat} {f g : Nat → Value} (h : ∀ i, i < n → f i = g i) : rowF n f = rowF n g := by
  unfold rowF
  congr 1
  exact List.map_congr_left fun i hi => h i (List.mem_range.1 hi)
theorem famS_fd (n : Nat) (s : DfS) (l : List Int) : fup (famS n s) n l = famS n ⟨s.has, s.ms, s.wh, l⟩ := by
  funext r
  by_cases h : r = n
  · subst h; rw [fup_same]; simp [famS]
  · rw [fup_ne _ _ h]; simp [famS, h]
theorem famS_wh (n : Nat) (s : DfS) {k : Nat} (hk : k < n) (l : List Int) : fup (famS n s) k l = famS n ⟨s.has, s.ms, fup s.wh k l, s.fd⟩ := by
  funext r
  by_cases h : r = k
  · subst h
    rw [fup_same]
    simp [famS, Nat.ne_of_lt hk, fup_same]
  · rw [fup_ne _ _ h]
    by_cases h2 : r = n
    · subst h2; simp [famS]
    · simp [famS, h2, fup_ne _ _ h]
theorem famS_n (n : Nat) (s : DfS) : famS n s n = s.fd := by simp [famS]
theorem famS_k {n : Nat} (s : DfS) {k : Nat} (hk : k < n) : famS n s k = s.wh k := by simp [famS, Nat.ne_of_lt hk]
theorem DfM.later {w W W' : World} {hb mb ob base n : Nat} {va : Nat → Value} {s : DfS} (h : DfM w W hb mb ob base n va s) (hb' : Below W.heap.size W W') : DfM w W' hb mb ob base n va s := by
  obtain ⟨l1, l2, l3, l4⟩ := h.lt
  exact ⟨h.bel.trans (hb'.mono h.bel.size), (hb'.block _ (by omega)).trans h.hs, (hb'.block _ (by omega)).trans h.mm, (hb'.block _ (by omega)).trans h.oo, h.fam.same fun k _ hk => hb'.block k hk, h.lo, ⟨l1, l2, l3, Nat.le_trans l4 hb'.size⟩, h.ne⟩
theorem DfM.pushF {w W : World} {hb mb ob base n : Nat} {va : Nat → Value} {s : DfS} (h : DfM w W hb mb ob base n va s) (x : Int) (hn : s.fd.length ≤ 4294967296) :
    ∃ g c W3, (∀ ty, (Builtin.append_ #[32, 32] ty #[va n, .slice (some ⟨W.heap.size, 0, none⟩) 1 1]).run Tryd.prog (W.alloc (.cells #[.int .i64 x] 3)) = .ok (.slice (some ⟨g, 0, none⟩) (s.fd.length + 1) c) W3) ∧ Bx (DfM w W3 hb mb ob base n (fup va n (.slice (some ⟨g, 0, none⟩) (s.fd.length + 1) c)) ⟨s.has, s.ms, s.wh, s.fd ++ [x]⟩) := by
  obtain ⟨l1, l2, l3, l4⟩ := h.lt
  obtain ⟨g, c, W3, r, hx⟩ := h.fam.push (r := n) (by omega) l4 x (by rw [famS_n]; exact hn)
  rw [famS_n] at r hx
  obtain ⟨f, gr, low⟩ := hx.out
  have hlo := h.lo
  refine ⟨g, c, W3, r, ⟨⟨gr.os.trans h.bel.os, gr.tape.trans h.bel.tape, gr.output.trans h.bel.output, Nat.le_trans h.bel.size gr.size, fun k hk => (low k (by omega)).trans (h.bel.block k hk)⟩, (low _ l1).trans h.hs, (low _ l2).trans h.mm, ?_, by rw [← famS_fd]; exact f, hlo, ⟨l1, l2, l3, Nat.le_trans l4 gr.size⟩, h.ne⟩⟩
  rw [low _ l3, h.oo]
  congr 2
  refine rowF_congr fun i hi => ?_
  rw [fup_ne _ _ (Nat.ne_of_lt hi)]
theorem DfM.pushW {w W : World} {hb mb ob base n : Nat} {va : Nat → Value} {s : DfS} (h : DfM w W hb mb ob base n va s) {k : Nat} (hk : k < n) (x : Int) (hn : (s.wh k).length ≤ 4294967296) :
    ∃ g c W3, (∀ ty, (Builtin.append_ #[32, 32] ty #[va k, .slice (some ⟨W.heap.size, 0, none⟩) 1 1]).run Tryd.prog (W.alloc (.cells #[.int .i64 x] 3)) = .ok (.slice (some ⟨g, 0, none⟩) ((s.wh k).length + 1) c) W3) ∧ W3.cell? ⟨ob, k, none⟩ = some (va k) ∧ W3.frozen? ⟨ob, k, none⟩ = false ∧ Bx (DfM w (W3.setCell ⟨ob, k, none⟩ (.slice (some ⟨g, 0, none⟩) ((s.wh k).length + 1) c)) hb mb ob base n (fup va k (.slice (some ⟨g, 0, none⟩) ((s.wh k).length + 1) c)) ⟨s.has, s.ms, fup s.wh k (s.wh k ++ [x]), s.fd⟩) := by
  obtain ⟨l1, l2, l3, l4⟩ := h.lt
  obtain ⟨g, c, W3, r, hx⟩ := h.fam.push (r := k) (by omega) l4 x (by rw [famS_k s hk]; exact hn)
  rw [famS_k s hk] at r hx
  obtain ⟨f, gr, low⟩ := hx.out
  have hlo := h.lo
  have ho3 : W3.heap[ob]? = some (.cells (rowF n va) 32 (0, 0)) := (low _ l3).trans h.oo
  have hc : ∀ j, j ≠ ob → (W3.setCell ⟨ob, k, none⟩ (.slice (some ⟨g, 0, none⟩) ((s.wh k).length + 1) c)).heap[j]? = W3.heap[j]? := fun j hj => Below.heap_setCell W3 ⟨ob, k, none⟩ _ j hj
  have hs : (W3.setCell ⟨ob, k, none⟩ (.slice (some ⟨g, 0, none⟩) ((s.wh k).length + 1) c)).heap.size = W3.heap.size := by simp
  refine ⟨g, c, W3, r, cell_blk ho3 (rowF_at hk), frz_blk ho3, ⟨⟨gr.os.trans h.bel.os, gr.tape.trans h.bel.tape, gr.output.trans h.bel.output, by rw [hs]; exact Nat.le_trans h.bel.size gr.size, fun j hj => (hc j (by omega)).trans ((low j (by omega)).trans (h.bel.block j hj))⟩, (hc _ h.ne.2.1).trans ((low _ l1).trans h.hs), (hc _ h.ne.2.2).trans ((low _ l2).trans h.mm), ?_, ?_, hlo, ⟨l1, l2, l3, by rw [hs]; exact Nat.le_trans l4 gr.size⟩, h.ne⟩⟩
  · rw [← rowF_set hk]
    exact heap_setCell_same W3 ob k _ 32 _ ho3
  · rw [← famS_wh n s hk]
    exact f.same fun j h1 h2 => hc j (by omega)
theorem DfM.setM {w W : World} {hb mb ob base n : Nat} {va : Nat → Value} {s : DfS} (h : DfM w W hb mb ob base n va s) {k : Nat} (hk : k < n) (x : Int) : DfM w (W.setCell ⟨mb, k, none⟩ (.int .i64 x)) hb mb ob base n va ⟨s.has, fup s.ms k x, s.wh, s.fd⟩ := by
  obtain ⟨l1, l2, l3, l4⟩ := h.lt
  have hc : ∀ j, j ≠ mb → (W.setCell ⟨mb, k, none⟩ (.int .i64 x)).heap[j]? = W.heap[j]? := fun j hj => Below.heap_setCell W ⟨mb, k, none⟩ _ j hj
  have hs : (W.setCell ⟨mb, k, none⟩ (.int .i64 x)).heap.size = W.heap.size := by simp
  have hlo := h.lo
  refine ⟨⟨h.bel.os, h.bel.tape, h.bel.output, by rw [hs]; exact h.bel.size, fun j hj => (hc j (by omega)).trans (h.bel.block j hj)⟩, (hc _ h.ne.1).trans h.hs, ?_, (hc _ (fun e => h.ne.2.2 e.symm)).trans h.oo, h.fam.same fun j h1 h2 => hc j (by omega), hlo, ⟨l1, l2, l3, by rw [hs]; exact l4⟩, h.ne⟩
  have := heap_setCell_same W mb k _ 3 (.int .i64 x) h.mm
  rw [rowF_set hk] at this
  rw [this]
  congr 2
  refine rowF_congr fun i hi => ?_
  by_cases e : i = k
  · subst e
    show fup _ _ _ _ = Value.int .i64 (fup _ _ _ _)
    rw [fup_same, fup_same]
  · show fup _ _ _ _ = Value.int .i64 (fup _ _ _ _)
    rw [fup_ne _ _ e, fup_ne _ _ e]
theorem DfM.setH {w W : World} {hb mb ob base n : Nat} {va : Nat → Value} {s : DfS} (h : DfM w W hb mb ob base n va s) {k : Nat} (hk : k < n) (x : Bool) : DfM w (W.setCell ⟨hb, k, none⟩ (.bool x)) hb mb ob base n va ⟨fup s.has k x, s.ms, s.wh, s.fd⟩ := by
  obtain ⟨l1, l2, l3, l4⟩ := h.lt
  have hc : ∀ j, j ≠ hb → (W.setCell ⟨hb, k, none⟩ (.bool x)).heap[j]? = W.heap[j]? := fun j hj => Below.heap_setCell W ⟨hb, k, none⟩ _ j hj
  have hs : (W.setCell ⟨hb, k, none⟩ (.bool x)).heap.size = W.heap.size := by simp
  have hlo := h.lo
  refine ⟨⟨h.bel.os, h.bel.tape, h.bel.output, by rw [hs]; exact h.bel.size, fun j hj => (hc j (by omega)).trans (h.bel.block j hj)⟩, ?_, (hc _ (fun e => h.ne.1 e.symm)).trans h.mm, (hc _ (fun e => h.ne.2.1 e.symm)).trans h.oo, h.fam.same fun j h1 h2 => hc j (by omega), hlo, ⟨l1, l2, l3, by rw [hs]; exact l4⟩, h.ne⟩
  have := heap_setCell_same W hb k _ 4 (.bool x) h.hs
  rw [rowF_set hk] at this
  rw [this]
  congr 2
  refine rowF_congr fun i hi => ?_
  by_cases e : i = k
  · subst e
    show fup _ _ _ _ = Value.bool (fup _ _ _ _)
    rw [fup_same, fup_same]
  · show fup _ _ _ _ = Value.bool (fup _ _ _ _)
    rw [fup_ne _ _ e, fup_ne _ _ e]
theorem DfM.cells {w W : World} {hb mb ob base n : Nat} {va : Nat → Value} {s : DfS} (h : DfM w W hb mb ob base n va s) {k : Nat} (hk : k < n) : W.cell? ⟨hb, k, none⟩ = some (.bool (s.has k)) ∧ W.cell? ⟨mb, k, none⟩ = some (.int .i64 (s.ms k)) ∧ W.cell? ⟨ob, k, none⟩ = some (va k) ∧ W.frozen? ⟨hb, k, none⟩ = false ∧ W.frozen? ⟨mb, k, none⟩ = false ∧ W.frozen? ⟨ob, k, none⟩ = false :=
  ⟨cell_blk h.hs (rowF_at hk), cell_blk h.mm (rowF_at hk), cell_blk h.oo (rowF_at hk), frz_blk h.hs, frz_blk h.mm, frz_blk h.oo⟩
theorem DfM.popF {w W : World} {hb mb ob base n : Nat} {va : Nat → Value} {s : DfS} (h : DfM w W hb mb ob base n va s) {rest : List Int} {x : Int} (hf : s.fd = rest ++ [x]) :
    ∃ g c, va n = .slice (some ⟨g, 0, none⟩) (rest.length + 1) c ∧ rest.length + 1 ≤ c ∧ W.cell? ⟨g, rest.length, none⟩ = some (.int .i64 x) ∧ g < W.heap.size ∧ Bx (DfM w W hb mb ob base n (fup va n (.slice (some ⟨g, 0, none⟩) rest.length c)) ⟨s.has, s.ms, s.wh, rest⟩) := by
  obtain ⟨g, c, e1, e2, e3, e4, e5⟩ := h.fam.pop (r := n) (by omega) (by rw [famS_n]; exact hf)
  refine ⟨g, c, e1, e2, e3, e4, ⟨⟨h.bel, h.hs, h.mm, ?_, by rw [← famS_fd]; exact e5, h.lo, h.lt, h.ne⟩⟩⟩
  rw [h.oo]
  congr 2
  refine rowF_congr fun i hi => ?_
  rw [fup_ne _ _ (Nat.ne_of_lt hi)]
/-- the rows at the beginning -/
theorem dfm_zero (w : World) (n : Nat) {W : World} (hW : ((w.alloc (.cells (rowF n fun _ => .bool false) 4)).alloc (.cells (rowF n fun _ => .int .i64 0) 3)).alloc (.cells (rowF n fun _ => .slice none 0 0) 32) = W) : DfM w W w.heap.size (w.heap.size + 1) (w.heap.size + 2) (w.heap.size + 3) n (fun _ => .slice none 0 0) df0 := by
  obtain ⟨W1, h1⟩ : ∃ W1, w.alloc (.cells (rowF n fun _ => .bool false) 4) = W1 := ⟨_, rfl⟩
  obtain ⟨W2, h2⟩ : ∃ W2, W1.alloc (.cells (rowF n fun _ => .int .i64 0) 3) = W2 := ⟨_, rfl⟩
  rw [h1, h2] at hW
  have z1 : W1.heap.size = w.heap.size + 1 := by rw [← h1]; simp
  have z2 : W2.heap.size = w.heap.size + 2 := by rw [← h2]; simp [z1]
  have z3 : W.heap.size = w.heap.size + 3 := by rw [← hW]; simp [z2]
  have b1 : Below w.heap.size w W1 := by rw [← h1]; exact below1 w _
  have b2 : Below W1.heap.size W1 W2 := by rw [← h2]; exact below1 W1 _
  have b3 : Below W2.heap.size W2 W := by rw [← hW]; exact below1 W2 _
  have q1 : W1.heap[w.heap.size]? = some (.cells (rowF n fun _ => .bool false) 4 (0, 0)) := by rw [← h1]; exact heap_newH _ _ _ rfl
  have q2 : W2.heap[w.heap.size + 1]? = some (.cells (rowF n fun _ => .int .i64 0) 3 (0, 0)) := by rw [← h2]; exact heap_newH _ _ _ z1
  have q3 : W.heap[w.heap.size + 2]? = some (.cells (rowF n fun _ => .slice none 0 0) 32 (0, 0)) := by rw [← hW]; exact heap_newH _ _ _ z2
  exact ⟨b1.trans ((b2.mono (by omega)).trans (b3.mono (by omega))), (b3.block _ (by omega)).trans ((b2.block _ (by omega)).trans q1), (b3.block _ (by omega)).trans q2, q3, ⟨fun r hr => ⟨by simp [famS, df0, intL], .inl ⟨rfl, by simp [famS, df0]⟩⟩, fun r r' _ _ _ g hg => by simp [Value.ownBlock] at hg⟩, by omega, by omega, by omega⟩
end Go.Proofs.YtadmpgegolmkgaaDoor
