import Derived.Test.YteinpijbdgcehaaCOTa
namespace Go.Proofs.Yteinpijbdgcehaa
open Go.RowKit Go.Shelf
set_option linter.unusedVariables false
set_option linter.unusedSimpArgs false
attribute [local go_sem] Oper.semAt_some

set_option maxRecDepth 100000 in
set_option maxHeartbeats 4000000 in
theorem right_any (w : World) (Pr : Nat → Prop) (hPr : ∀ b, Pr b → ∃ o : Obj, w.heap[b]? = some o ∧ o.isCells = true) (p : Option Addr) (c : Nat) (l : List OWt) (hl : WsIn w Pr p c l) :
    Calls Try.prog 33 #[.slice p l.length c] w fun e w' => e = .returned (.bool (oright l)) ∧ Below w.heap.size w w' := by
  have hlc := hl.len
  have hcm := hl.max
  unfold maxLen at hcm
  go_enter Try.func33, Try.ntmps33
  go_wp2
  go_loopg [3, 8] l.length (fun k v3 v8 wr => ∃ (i : Nat) (x : Int), k = l.length - i ∧ i ≤ l.length ∧ v3 = .int .i64 x ∧ v8 = .int .i64 i ∧ Bx (orightFrom x (l.drop i) = oright l ∧ Below w.heap.size w wr))
  case atStart => exact ⟨0, -1, by simp, by omega, rfl, rfl, ⟨by simp [oright], Below.refl _ _⟩⟩
  case round =>
    obtain ⟨i, x, hk, hil, rfl, rfl, HR⟩ := hrel
    by_cases hlt : i < l.length
    · obtain ⟨b, o, q, d, rfl, hb, c0, c1, _, _⟩ := (hl.keep (Kpt.of_below hPr HR.out.2)).at_ i hlt
      have HB : Bx (Below w.heap.size w (wr.alloc (.cells #[.int .i64 l[i].id, .slice q l[i].arms.length d] 38))) := ⟨HR.out.2.trans ((below1 _ _).mono HR.out.2.size)⟩
      have hd : l.drop i = l[i] :: l.drop (i + 1) := List.drop_eq_getElem_cons hlt
      have HE : Bx ((decide (x < l[i].id) && orightFrom l[i].id (l.drop (i + 1))) = oright l) := ⟨by have := HR.out.1; rw [hd, orightFrom] at this; exact this⟩
      clear HR hd
      by_cases hx : l[i].id ≤ x
      · have HF : Bx (oright l = false) := ⟨by rw [← HE.out, decide_eq_false (by omega), Bool.false_and]⟩
        go_wp2
        go_ret
        exact ⟨by rw [HF.out]; rfl, HB.out⟩
      · have HF : Bx (orightFrom l[i].id (l.drop (i + 1)) = oright l) := ⟨by rw [← HE.out, decide_eq_true (by omega), Bool.true_and]⟩
        go_wp2
        go_roundg (l.length - (i + 1))
        case measure => omega
        case rel => exact ⟨i + 1, l[i].id, rfl, by omega, by simp, by simp, ⟨HF.out, HB.out⟩⟩
    · have hie : i = l.length := by omega
      subst hie
      have HF : Bx (oright l = true ∧ Below w.heap.size w wr) := ⟨by rw [← HR.out.1]; simp [orightFrom], HR.out.2⟩
      clear HR
      go_wp2
      go_ret
      exact ⟨by rw [HF.out.1]; rfl, HF.out.2⟩

set_option maxRecDepth 100000 in
theorem spots_in (n : Nat) (p : Option Addr) (k c hf : Nat) (hlb : Array Value) (w : World) :
    CallsIn Fence.wide n Try.prog 23 #[.slice p k c, .func (.func hf) #[] hlb] w fun e w' => e = .returned (.func (.func 32) #[] #[.pointer (some ⟨w.heap.size, 0, none⟩), .pointer (some ⟨w.heap.size + 1, 0, none⟩)]) ∧ w' = (w.alloc (.cells #[.slice p k c] 22)).alloc (.cells #[.func (.func hf) #[] hlb] 56) := by
  refine callsIn_of_wp Try.func23 rfl trivial ?_ rfl
  simp only [Try.ntmps23, List.size_toArray, List.length_cons, List.length_nil, Nat.reduceAdd, Nat.reduceSub, Array.replicate_succ, Array.replicate_zero, List.push_toArray, List.append_toArray, List.nil_append, List.cons_append]
  gi_wp2
  go_ret
  exact ⟨rfl, rfl⟩
set_option maxRecDepth 100000 in
theorem thoseA_mk (n : Nat) (p : Option Addr) (k c hf : Nat) (hlb : Array Value) (w : World) :
    CallsIn Fence.wide n Try.prog 34 #[.slice p k c, .func (.func hf) #[] hlb] w fun e w' => e = .returned (.func (.func 36) #[] #[.pointer (some ⟨w.heap.size, 0, none⟩), .pointer (some ⟨w.heap.size + 1, 0, none⟩)]) ∧ w' = (w.alloc (.cells #[.slice p k c] 36)).alloc (.cells #[.func (.func hf) #[] hlb] 56) := by
  refine callsIn_of_wp Try.func34 rfl trivial ?_ rfl
  simp only [Try.ntmps34, List.size_toArray, List.length_cons, List.length_nil, Nat.reduceAdd, Nat.reduceSub, Array.replicate_succ, Array.replicate_zero, List.push_toArray, List.append_toArray, List.nil_append, List.cons_append]
  gi_wp2
  go_ret
  exact ⟨rfl, rfl⟩
/-- a round may be entered from whatever depth -/
theorem YieldAt.any {m L : Nat} {P : Program} {x : Array Value} {W : World} {R : Ending → World → Prop} (h : YieldAt Fence.wide m P L x W R) (l m' : Nat) : YieldAt (Fence.wide.inRound l) m' P L x W R := by
  obtain ⟨fn, tmps, assign, body, hy, hR⟩ := h
  exact ⟨fn, tmps, assign, body, hy, hR.1, fun c cs _ => hR.2 c cs (fun d hd => by cases hd)⟩
theorem YieldAt.deep {m L : Nat} {P : Program} {x : Array Value} {W : World} {R : Ending → World → Prop} (h : YieldAt Fence.wide m P L x W R) (m' : Nat) : YieldAt Fence.wide m' P L x W R := by
  obtain ⟨fn, tmps, assign, body, hy, hR⟩ := h
  exact ⟨fn, tmps, assign, body, hy, hR.1, fun c cs _ => hR.2 c cs (fun d hd => by cases hd)⟩
/-- the blocks for deferred calls of the loops that were gone through -/
structure Marks (hi : Nat) (W : World) (Ds : List Nat) : Prop where
  nodup : Ds.Nodup
  at_ : ∀ D ∈ Ds, hi ≤ D ∧ W.heap[D]? = some (.deferred (some []))
def mkD (Ds : List Nat) : List Deferred := Ds.map fun D => { target := .collected D, args := #[] }
theorem Marks.sep {hi : Nat} {G G' : Nat → Prop} {A B : World} {Ds : List Nat} (h : Marks hi A Ds) (s : Sep hi G G' A B) : Marks hi B Ds := ⟨h.nodup, fun D hD => ⟨(h.at_ D hD).1, s.oth D _ (h.at_ D hD).2 rfl (h.at_ D hD).1⟩⟩
theorem Marks.grown {hi : Nat} {A B : World} {row : Option Nat} {Ds : List Nat} (h : Marks hi A Ds) (hg : A.grownBy B row) (hr : ∀ r, row = some r → r ∉ Ds) : Marks hi B Ds := ⟨h.nodup, fun D hD => ⟨(h.at_ D hD).1, grownBy_oth hg (h.at_ D hD).2 (fun e => hr D e hD)⟩⟩
theorem Marks.below {hi : Nat} {A B : World} {Ds : List Nat} (h : Marks hi A Ds) (hg : Below A.heap.size A B) : Marks hi B Ds := h.grown (grown_below hg) (fun r e => by cases e)
theorem Marks.lt {hi : Nat} {A : World} {Ds : List Nat} (h : Marks hi A Ds) : ∀ D ∈ Ds, D < A.heap.size := fun D hD => (Array.getElem?_eq_some_iff.1 (h.at_ D hD).2).1
/-- a function that ends goes through its marks -/
theorem leaves_marks {F : Fence} {n : Nat} {P : Program} {fn : Func} {tmps : Array Value} {R : Ending → World → Prop} {hi : Nat} (Φ : World → Prop) (hΦ : ∀ W D, Φ W → hi ≤ D → W.heap[D]? = some (.deferred (some [])) → Φ (W.putObj D (.deferred none)))
    (hend : ∀ W, Φ W → ∃ v, (results fn tmps).run P W = .ok v W ∧ R (.returned v) W) : ∀ (Ds : List Nat) (W : World), Marks hi W Ds → Φ W → LeavesInM F n P fn tmps R (mkD Ds) .returning W
  | [], W, _, h => hend W h
  | D :: Ds, W, hm, h => by
    have hD := hm.at_ D List.mem_cons_self
    refine ⟨by simp, .inl ⟨D, _, rfl, run_takeDeferred hD.2, ?_⟩⟩
    have hn := List.nodup_cons.1 hm.nodup
    exact leaves_marks Φ hΦ hend Ds _ ⟨hn.2, fun D' hD' => ⟨(hm.at_ D' (List.mem_cons_of_mem _ hD')).1, (World.putObj_heap_other (show D' ≠ D from fun e => hn.1 (by rw [← e]; exact hD'))).trans (hm.at_ D' (List.mem_cons_of_mem _ hD')).2⟩⟩ (hΦ W D h hD.1 hD.2)
/-- where the arms that have a property stand -/
def spV (id : Int) (i : Nat) (ch : Int) : Value := .agg #[.int .i64 id, .int .i64 i, .int .i64 ch]
def spA (pr : OArm → Bool) (id : Int) (l : List OArm) : List (Array Value) := ofm (fun i a => if pr a then [#[spV id i a.chan]] else []) 0 l
def spX (pr : OArm → Bool) (l : List OWt) : List (Array Value) := if oright l then l.flatMap fun W => spA pr W.id W.arms else []
theorem ofm_two {α β γ : Type} (f : Nat → α → β) (g : Nat → α → γ) (pr : α → Bool) : ∀ (l : List α) (n k : Nat) (x : β), (ofm (fun i a => if pr a then [f i a] else []) n l)[k]? = some x → ∃ i a, l[i]? = some a ∧ pr a = true ∧ x = f (n + i) a ∧ (ofm (fun i a => if pr a then [g i a] else []) n l)[k]? = some (g (n + i) a)
  | [], n, k, x, h => by simp [ofm] at h
  | a :: r, n, k, x, h => by
    rw [ofm] at h ⊢
    cases hp : pr a
    · rw [hp] at h
      obtain ⟨i, b, h1, h2, h3, h4⟩ := ofm_two f g pr r (n + 1) k x (by simpa using h)
      exact ⟨i + 1, b, by simpa using h1, h2, by rw [h3, show n + 1 + i = n + (i + 1) by omega], by rw [show n + (i + 1) = n + 1 + i by omega]; simpa [hp] using h4⟩
    · rw [hp] at h
      cases k with
      | zero => exact ⟨0, a, rfl, hp, by simpa using h.symm, by simp [hp]⟩
      | succ k =>
        obtain ⟨i, b, h1, h2, h3, h4⟩ := ofm_two f g pr r (n + 1) k x (by simpa using h)
        exact ⟨i + 1, b, by simpa using h1, h2, by rw [h3, show n + 1 + i = n + (i + 1) by omega], by rw [show n + (i + 1) = n + 1 + i by omega]; simpa [hp] using h4⟩
theorem ofm_len2 {α β γ : Type} (f : Nat → α → β) (g : Nat → α → γ) (pr : α → Bool) : ∀ (l : List α) (n m : Nat), (ofm (fun i a => if pr a then [f i a] else []) n l).length = (ofm (fun i a => if pr a then [g i a] else []) m l).length
  | [], n, m => rfl
  | a :: r, n, m => by
    rw [ofm, ofm, List.length_append, List.length_append, ofm_len2 f g pr r (n + 1) (m + 1)]
    cases pr a <;> rfl
theorem flat_at {α β : Type} (f : α → List β) (l : List α) (i k : Nat) (h : i < l.length) (x : β) (hx : (f l[i])[k]? = some x) : (l.flatMap f)[((l.take i).flatMap f).length + k]? = some x := by
  have e : l = l.take i ++ l[i] :: l.drop (i + 1) := by rw [← List.drop_eq_getElem_cons h, List.take_append_drop]
  conv => lhs; rw [e, List.flatMap_append, List.flatMap_cons]
  rw [← e, List.getElem?_append_right (Nat.le_add_right _ _), Nat.add_sub_cancel_left, List.getElem?_append_left (List.getElem?_eq_some_iff.1 hx).1]
  exact hx
theorem flat_next {α β : Type} (f : α → List β) (l : List α) (i : Nat) (h : i < l.length) : ((l.take (i + 1)).flatMap f).length = ((l.take i).flatMap f).length + (f l[i]).length := by
  rw [List.take_succ_eq_append_getElem h, List.flatMap_append, List.length_append]
  simp
end Go.Proofs.Yteinpijbdgcehaa
