import Derived.Test.YtjjbgbadkbomlaaDoorCSNe
namespace Go.Proofs.YtjjbgbadkbomlaaDoor
open Go.RowKit Go.Maps
set_option linter.unusedVariables false
set_option linter.unusedSimpArgs false

/-! ### the example -/
def nmX : ByteArray := ⟨#[120]⟩
def onL (nm : ByteArray) : List Nd := [⟨13, 8, [], nm, 0⟩, ⟨31, 0, [0], nmX, 0⟩, ⟨46, 0, [1], ⟨#[]⟩, 0⟩]
def onC (s : Nat) (nm : ByteArray) : Array Value :=
  #[.int .i64 13, .int .i64 8, .slice none 0 0, .string nm, .int .i64 0, .int .i64 31, .int .i64 0, .slice (some ⟨s, 0, none⟩) 1 1, .string nmX, .int .i64 0, .int .i64 46, .int .i64 0, .slice (some ⟨s + 1, 0, none⟩) 1 1, .string ⟨#[]⟩, .int .i64 0]
structure OnAt (W : World) (s : Nat) (nm : ByteArray) : Prop where
  b0 : W.heap[s]? = some (.cells #[.int .i64 0] 3 (0, 0))
  b1 : W.heap[s + 1]? = some (.cells #[.int .i64 1] 3 (0, 0))
  b2 : W.heap[s + 2]? = some (.cells (onC s nm) 36 (0, 0))
theorem OnAt.lt {W : World} {s : Nat} {nm : ByteArray} (h : OnAt W s nm) : s + 2 < W.heap.size := (Array.getElem?_eq_some_iff.1 h.b2).1
theorem OnAt.below {W W' : World} {s B : Nat} {nm : ByteArray} (h : OnAt W s nm) (hb : Below B W W') (hB : s + 3 ≤ B) : OnAt W' s nm :=
  ⟨by rw [hb.block _ (by omega)]; exact h.b0, by rw [hb.block _ (by omega)]; exact h.b1, by rw [hb.block _ (by omega)]; exact h.b2⟩
theorem OnAt.turn {W : World} {s : Nat} {nm : ByteArray} (h : OnAt W s nm) (b : ByteArray) : OnAt (W.setCell ⟨s + 2, 3, none⟩ (.string b)) s b := by
  refine ⟨?_, ?_, ?_⟩
  · rw [heap_setCell_other _ _ _ _ (show s ≠ s + 2 by omega)]; exact h.b0
  · rw [heap_setCell_other _ _ _ _ (show s + 1 ≠ s + 2 by omega)]; exact h.b1
  · rw [heap_setCell_same W (s + 2) 3 _ _ _ h.b2]; simp [onC]
theorem one_ints {W : World} {s B : Nat} {x : Int} (h : W.heap[s]? = some (.cells #[.int .i64 x] 3 (0, 0))) (hB : s < B) : IntsV W B (.slice (some ⟨s, 0, none⟩) 1 1) [x] := by
  refine ⟨some ⟨s, 0, none⟩, 1, rfl, by simp, by simp [maxLen], fun _ => ⟨s, 0, rfl, hB, fun i hi => ?_⟩⟩
  have : i = 0 := by simpa using hi
  subst this
  rw [cell_of_row W s _ _ _ _ h]
  rfl
theorem no_ints (W : World) (B : Nat) : IntsV W B (.slice none 0 0) [] := ⟨_, _, rfl, by simp, by simp [maxLen], fun h => by simp at h⟩
theorem OnAt.cell {W : World} {s : Nat} {nm : ByteArray} (h : OnAt W s nm) (i : Nat) : W.cell? ⟨s + 2, i, none⟩ = (onC s nm)[i]? := cell_of_row W (s + 2) i _ _ (0, 0) h.b2
theorem OnAt.nd {W : World} {s : Nat} {nm : ByteArray} (h : OnAt W s nm) (j : Nat) (hj : j < 3) : ∃ ka kc, NdAt W (s + 3) (s + 2) (0 + j * 5) (ndN (onL nm) j) ka kc := by
  match j, hj with
  | 0, _ => exact ⟨none, 0, (h.cell 0).trans rfl, (h.cell 1).trans rfl, (h.cell 2).trans rfl, (h.cell 3).trans rfl, (h.cell 4).trans rfl, no_ints _ _⟩
  | 1, _ => exact ⟨some ⟨s, 0, none⟩, 1, (h.cell 5).trans rfl, (h.cell 6).trans rfl, (h.cell 7).trans rfl, (h.cell 8).trans rfl, (h.cell 9).trans rfl, one_ints h.b0 (by omega)⟩
  | 2, _ => exact ⟨some ⟨s + 1, 0, none⟩, 1, (h.cell 10).trans rfl, (h.cell 11).trans rfl, (h.cell 12).trans rfl, (h.cell 13).trans rfl, (h.cell 14).trans rfl, one_ints h.b1 (by omega)⟩
theorem wf_of {kd ps num : Int} {kids : List Int} {nm : ByteArray} (h1 : I64 kd) (h0 : I64 ps) (h2 : I64 num) (h4 : nm.size ≤ maxLen) (h3 : ∀ k ∈ kids, I64 k) : NdWf ⟨kd, ps, kids, nm, num⟩ := ⟨h1, h0, h2, h4, h3⟩
theorem on_wf (nm : ByteArray) (ha : nm.size ≤ maxLen) (j : Nat) (hj : j < 3) : NdWf (ndN (onL nm) j) := by
  match j, hj with
  | 0, _ => exact wf_of (by unfold I64; omega) (by unfold I64; omega) (by unfold I64; omega) ha (by intro k hk; simp at hk)
  | 1, _ => exact wf_of (by unfold I64; omega) (by unfold I64; omega) (by unfold I64; omega) (by decide) (by intro k hk; simp at hk; subst hk; unfold I64; omega)
  | 2, _ => exact wf_of (by unfold I64; omega) (by unfold I64; omega) (by unfold I64; omega) (by decide) (by intro k hk; simp at hk; subst hk; unfold I64; omega)
theorem OnAt.nodes {W : World} {s : Nat} {nm : ByteArray} (h : OnAt W s nm) (ha : nm.size ≤ maxLen) : Nodes W (s + 3) (s + 2) 0 3 (onL nm) :=
  ⟨h.nd, on_wf nm ha, by omega, h.lt, by simp [onL, maxLen], by simp [onL]⟩

/-! ### what is told of it -/
def emptyS (s : ByteArray) : Bool := s.data.toList.isEmpty
theorem emptyS_eq (s : ByteArray) : emptyB s = emptyS s := by unfold emptyB emptyS; rw [ByteArray.toList_eq]
def nameFitsS (kind : Int) (nm : ByteArray) : Bool :=
  if kind = 20 ∨ kind = 43 then emptyS nm || nameOk nm.data.toList
  else if kind = 3 ∨ kind = 13 ∨ kind = 31 ∨ kind = 32 ∨ kind = 42 ∨ kind = 45 then nameOk nm.data.toList
  else emptyS nm
theorem nameFitsS_eq (k : Int) (nm : ByteArray) : nameFitsI k nm = nameFitsS k nm := by unfold nameFitsI nameFitsS; rw [emptyS_eq]
def checkNodeS (l : List Nd) (fs : List Nat) (i : Nat) : Nat :=
  if kindI (ndN l i).kind = false ∨ (ndN l i).pos < 0 then 20
  else if numFitsI (ndN l i).kind (ndN l i).num (ndN l i).kids.length = false then 23
  else if nameFitsS (ndN l i).kind (ndN l i).name = false then 22
  else if orderI fs i (ndN l i).kids = false ∨ kidsFitI (kdN l) (ndN l i).kind (ndN l i).num ((ndN l i).kids.map Int.toNat) = false then 21
  else if levelsFitI l (ndN l i) = false then 24
  else 0
theorem checkNodeS_eq (l : List Nd) (fs : List Nat) (i : Nat) : checkNodeI l fs i = checkNodeS l fs i := by unfold checkNodeI checkNodeS; rw [nameFitsS_eq]
def checkGoS (l : List Nd) : Nat → List Nat → Nat × Nat
  | 0, fs => rootI l fs
  | m + 1, fs => if checkNodeS l fs fs.length = 0 then checkGoS l m (fs ++ [firstOf fs (ndN l fs.length) fs.length]) else (fs.length, checkNodeS l fs fs.length)
theorem checkGoS_eq (l : List Nd) : ∀ (m : Nat) (fs : List Nat), checkGo l m fs = checkGoS l m fs
  | 0, fs => rfl
  | m + 1, fs => by rw [checkGo, checkGoS, checkNodeS_eq, checkGoS_eq l m]
theorem check_onX : checkAll (onL nmX) = (0, 0) := by
  unfold checkAll
  rw [checkGoS_eq]
  kernel_rfl
theorem check_onI : checkAll (onL inN) = (0, 0) := by
  unfold checkAll
  rw [checkGoS_eq]
  kernel_rfl
theorem check_no : checkAll [] = (0, 25) := by rfl
theorem on_lok (nm : ByteArray) : LOk (onL nm) := by
  refine ⟨fun i k hi hk => ?_, fun i hi h => ?_, fun i hi h => ?_, fun i hi h => ?_⟩
  all_goals (have hi : i < 3 := hi)
  · match i, hi with
    | 0, _ => simp [ndN, onL] at hk
    | 1, _ => simp [ndN, onL] at hk; exact ⟨0, hk, by omega⟩
    | 2, _ => simp [ndN, onL] at hk; exact ⟨1, hk, by omega⟩
  · match i, hi with
    | 0, _ => simp [kdN, ndN, onL] at h
    | 1, _ => simp [kdN, ndN, onL] at h
    | 2, _ => simp [kdN, ndN, onL] at h
  · match i, hi with
    | 0, _ => simp [kdN, ndN, onL] at h
    | 1, _ => simp [kdN, ndN, onL] at h
    | 2, _ => simp [kdN, ndN, onL] at h
  · match i, hi with
    | 0, _ => simp [kdN, ndN, onL] at h
    | 1, _ => simp [kdN, ndN, onL] at h
    | 2, _ => simp [kdN, ndN, onL] at h
theorem on_simple (nm : ByteArray) (i : Nat) (hi : i < (onL nm).length) : kdN (onL nm) i ≠ 20 ∧ kdN (onL nm) i ≠ 43 ∧ kdN (onL nm) i ≠ 33 := by
  have hi : i < 3 := hi
  match i, hi with
  | 0, _ => simp [kdN, ndN, onL]
  | 1, _ => simp [kdN, ndN, onL]
  | 2, _ => simp [kdN, ndN, onL]
/-- the beginning is well -/
theorem nwSc_top {x : ByteArray} {m : Nat} (h : nwSc true true x = some m) : m = 0 ∨ m = 1 := by
  unfold nwSc at h
  split at h
  · cases h; exact .inr rfl
  split at h
  · cases h; exact .inl rfl
  · cases h
theorem start_mn (l : List Nd) (m : Nat) : mnS (startS l) m = ⟨-2, 0, 0, none, 0⟩ ∨ mnS (startS l) m = ⟨-3, 0, 0, none, 0⟩ ∨ mnS (startS l) m = mn0 := by
  match m with
  | 0 => exact .inl rfl
  | 1 => exact .inr (.inl rfl)
  | m + 2 => exact .inr (.inr rfl)
theorem start_out (l : List Nd) (m : Nat) : (mnS (startS l) m).outer = none ∧ (mnS (startS l) m).block = 0 ∧ (mnS (startS l) m).done = 0 ∧ (mnS (startS l) m).lvl = 0 := by
  rcases start_mn l m with h | h | h <;> rw [h] <;> exact ⟨rfl, rfl, rfl, rfl⟩
theorem start_wf (l : List Nd) : SWf l (startS l) := by
  refine ⟨fun m m' h => ?_, fun nm m h => ?_, fun nm m h => ?_, fun nm m h _ h0 => ?_, fun nm h => (by cases h), List.nodup_nil, fun m hm => ?_, fun m _ => ?_, fun m _ k _ h2 => ?_, fun m _ k h => ?_, fun k hk => (by cases hk), fun k m h => ?_, by simp [startS], by simp [startS], fun nm h => (by cases h)⟩
  · rw [(start_out l m).1] at h; cases h
  · rcases nwSc_top h with rfl | rfl <;> simp [startS]
  · rw [(start_out l m).2.1]; exact Nat.zero_le _
  · exact absurd h0 (by simp [startS])
  · have hm : m = 0 ∨ m = 1 := by simp [startS] at hm; omega
    rcases hm with rfl | rfl
    · exact .inl rfl
    · exact .inr (.inl rfl)
  · rw [(start_out l m).2.2.1, (start_out l m).2.2.2]; exact ⟨Nat.le_refl _, Nat.zero_le _⟩
  · rw [(start_out l m).2.2.1] at h2; omega
  · have : gatS (startS l) k = (0, []) := by unfold gatS startS; simp
    rw [this] at h; cases h
  · have : gatS (startS l) k = (0, []) := by unfold gatS startS; simp
    rw [this] at h; cases h
theorem start_pw (l : List Nd) (n : Nat) (hn : n < 4294967290) : PW l (startS l) n := by
  have hg : ∀ k, gatS (startS l) k = (0, []) := fun k => by unfold gatS startS; simp
  refine ⟨start_wf l, by simp [startS], fun j j' _ h => (by cases h), by simp [startS]; omega, fun k => by rw [hg]; show 0 + n < _; omega, fun p => ?_⟩
  have : (startS l).free.getD p [] = [] := by
    simp only [startS, List.getD_eq_getElem?_getD, List.getElem?_replicate]
    split <;> rfl
  rw [this]; show 0 + n < _; omega
theorem on_cnt (nm : ByteArray) : cntF (onL nm) 3 2 = 3 := by rfl
theorem tk0 {B nb no nc : Nat} {l : List Nd} : TkOk B nb no nc l 0 := fun W0 G0 m W s G k h hg hk => by omega
/-- the walk through the example -/
theorem on_visit {nm : ByteArray} {B nb no nc : Nat} {W0 W : World} {G0 G : WG} (h : ST B nb no nc (onL nm) W0 G0 W (startS (onL nm)) G) :
    Calls Tryd.prog 19 #[.pointer (some ⟨G.wb, 0, none⟩), .int .i64 (((onL nm).length - 1 : Nat) : Int)] W fun e W' => e = .returned (.tuple #[]) ∧ ∃ G', ST B nb no nc (onL nm) W0 G0 W' (visF (onL nm) 3 2 (startS (onL nm))) G' :=
  (visit_simple (on_lok nm) (on_simple nm) 3 2 (by simp [onL]) (by omega) W0 G0 W _ G h (fun k hk => by cases hk) (start_pw _ _ (by rw [on_cnt]; omega)) (by show 0 + 2 * 3 < _; omega) tk0).mono fun e W' ⟨a, G', b, _⟩ => ⟨a, G', b⟩
end Go.Proofs.YtjjbgbadkbomlaaDoor
namespace Go.Proofs.YtjjbgbadkbomlaaDoor
open Go.RowKit Go.Maps
set_option linter.unusedVariables false
set_option linter.unusedSimpArgs false

/-! ### the example's walk, reckoned -/
def declS (l : List Nd) (i : Nat) (s : SSt) : SSt :=
  if (ndN l i).name.data.toList.isEmpty = true then s else
  match s.sc (ndN l i).name with
  | none => putP (ndN l i).name i none s
  | some m => if (mnS s m).block = s.blocks then refuseP l i 50 s else putP (ndN l i).name i (some m) s
theorem declS_eq (l : List Nd) (i : Nat) (s : SSt) : declP l i s = declS l i s := by unfold declP declS; rw [ByteArray.toList_eq]; rfl
def visS (l : List Nd) : Nat → Nat → SSt → SSt
  | 0, _, s => s
  | f + 1, i, s =>
    if kdN l i = 13 then nameP l i s
    else if kdN l i = 20 then capP i (blockP (fun s => blockP (fun s => allP (visS l f) (ndAt l ((ndN l i).kids.getLastD 0)).kids (allP (visS l f) (ndN l i).kids.dropLast s)) (declS l i s))) s
    else if kdN l i = 43 then blockP (fun s => allP (visS l f) (ndAt l ((ndN l i).kids.getD 1 0)).kids (declS l i s)) (visS l f ((ndN l i).kids.getD 0 0).toNat s)
    else if kdN l i = 41 ∨ kdN l i = 46 then blockP (allP (visS l f) (ndN l i).kids) s
    else if kdN l i = 31 ∨ kdN l i = 32 ∨ kdN l i = 42 then declS l i (allP (visS l f) (ndN l i).kids s)
    else if kdN l i = 33 then allP (visS l f) (ndN l i).kids { s with set := placeP l (l.length + 1) ((ndN l i).kids.getD 0 0).toNat }
    else allP (visS l f) (ndN l i).kids s
theorem visS_eq (l : List Nd) : ∀ f, visF l f = visS l f
  | 0 => rfl
  | f + 1 => by
    funext i s
    have hd : declP l i = declS l i := by funext s; exact declS_eq l i s
    unfold visF visS
    rw [visS_eq l f, hd]
theorem on_fltX : (visF (onL nmX) 3 2 (startS (onL nmX))).flt = (8, 51) := by rw [visS_eq]; kernel_rfl
theorem on_fltI : (visF (onL inN) 3 2 (startS (onL inN))).flt = (0, 0) := by rw [visS_eq]; kernel_rfl
theorem on_refI : (visF (onL inN) 3 2 (startS (onL inN))).ref = [-2, -1, -1] := by rw [visS_eq]; kernel_rfl
theorem names_one (W : World) (s : Nat) (h : OnAt W s nmX) (hL : Laid W) : Calls Tryd.prog 9 #[.slice (some ⟨s + 2, 0, none⟩) 3 3] W fun e W' => e = .returned (.tuple #[nilNames, fltV 8 51]) ∧ Below W.heap.size W W' := by
  have hf := on_fltX
  have := Names_fault W (h.nodes (by decide)) (l := onL nmX) (by simp [onL]) (by simp [onL]) (fun W1 hb => by
    have hh := h.below hb (by have := h.lt; omega)
    have := Check_some W1 (s + 3) (s + 2) 0 3 (onL nmX) (hh.nodes (by decide)) (hL.below hb) (by simp [onL]) (by simp [onL])
    rw [check_onX] at this
    exact this) (visF (onL nmX) 3 2 (startS (onL nmX))) (by rw [hf]; decide) (fun B' W0 G0 W2 G h2 => on_visit h2)
  rw [hf] at this
  exact this
theorem names_two (W : World) (s : Nat) (h : OnAt W s inN) (hL : Laid W) : Calls Tryd.prog 9 #[.slice (some ⟨s + 2, 0, none⟩) 3 3] W fun e W' => (∃ rb fb, e = .returned (.tuple #[.agg #[.slice (some ⟨rb, 0, none⟩) 3 3, .slice (some ⟨fb, 0, none⟩) 3 3], fltV 0 0]) ∧ W'.cell? ⟨rb, 0, none⟩ = some (.int .i64 (-2)) ∧ W'.cell? ⟨rb, 1, none⟩ = some (.int .i64 (-1)) ∧ rb < W'.heap.size) ∧ Below W.heap.size W W' := by
  have hf := on_fltI
  refine (Names_ok W (h.nodes (by decide)) (l := onL inN) (by simp [onL]) (by simp [onL]) (fun W1 hb => by
    have hh := h.below hb (by have := h.lt; omega)
    have := Check_some W1 (s + 3) (s + 2) 0 3 (onL inN) (hh.nodes (by decide)) (hL.below hb) (by simp [onL]) (by simp [onL])
    rw [check_onI] at this
    exact this) (visF (onL inN) 3 2 (startS (onL inN))) (by rw [hf]) (fun B' W0 G0 W2 G h2 => on_visit h2)).mono fun e W' ⟨⟨rb, fb, fv, he, hr⟩, hb⟩ => ⟨⟨rb, fb, he, ?_, ?_, ?_⟩, hb⟩
  · rw [cell_of_row W' rb 0 _ _ _ hr.ref, on_refI]; rfl
  · rw [cell_of_row W' rb 1 _ _ _ hr.ref, on_refI]; rfl
  · exact (Array.getElem?_eq_some_iff.1 hr.ref).1
theorem names_no (W : World) (hL : Laid W) : Calls Tryd.prog 9 #[.slice none 0 0] W fun e W' => e = .returned (.tuple #[nilNames, fltV 0 25]) ∧ Below W.heap.size W W' :=
  Names_bad W none 0 0 0 25 (by decide) fun W1 hb => by
    have := Check_any W1 W1.heap.size none 0 [] ⟨fun h => (by simp at h), Nat.le_refl _⟩ (hL.below hb) (by simp)
    rw [check_no] at this
    exact this
theorem pair_at (W : World) (c1 c2 : Array Value) (t1 t2 : TypeId) : ∃ W', (W.alloc (.cells c1 t1)).alloc (.cells c2 t2) = W' ∧ Below W.heap.size W W' ∧ W'.heap[W.heap.size]? = some (.cells c1 t1 (0, 0)) ∧ W'.heap[W.heap.size + 1]? = some (.cells c2 t2 (0, 0)) ∧ W'.heap.size = W.heap.size + 2 := by
  refine ⟨_, rfl, ((Below.refl _ _).alloc (Nat.le_refl _) _).alloc (by simp) _, ?_, ?_, by simp⟩
  · rw [((Below.refl (W.alloc (.cells c1 t1)).heap.size _).alloc (Nat.le_refl _) _).block _ (by simp)]
    exact heap_alloc_new W _
  · simpa using heap_alloc_new (W.alloc (.cells c1 t1)) (.cells c2 t2)
set_option maxHeartbeats 2000000 in
set_option maxRecDepth 100000 in
theorem shown_any (w : World) (hL : Laid w) : Calls Tryd.prog 8 #[] w fun e w' => e = .returned (.bool true) ∧ Below w.heap.size w w' := by
  obtain ⟨W3, hW3⟩ : ∃ W3, ((w.alloc (.cells #[.int .i64 0] 3)).alloc (.cells #[.int .i64 1] 3)).alloc (.cells #[.int .i64 13, .int .i64 8, .slice none 0 0, .string ⟨#[120]⟩, .int .i64 0, .int .i64 31, .int .i64 0, .slice (some ⟨w.heap.size, 0, none⟩) 1 1, .string ⟨#[120]⟩, .int .i64 0, .int .i64 46, .int .i64 0, .slice (some ⟨w.heap.size + 1, 0, none⟩) 1 1, .string ⟨#[]⟩, .int .i64 0] 36) = W3 := ⟨_, rfl⟩
  have b3 : Below w.heap.size w W3 := by rw [← hW3]; exact (((Below.refl _ _).alloc (Nat.le_refl _) _).alloc (by simp) _).alloc (by simp; omega) _
  have h3 : OnAt W3 w.heap.size nmX := by
    have e1 : (w.alloc (.cells #[.int .i64 0] 3)).heap.size = w.heap.size + 1 := by simp
    have e2 : ((w.alloc (.cells #[.int .i64 0] 3)).alloc (.cells #[.int .i64 1] 3)).heap.size = w.heap.size + 2 := by simp
    have q1 := (Below.refl ((w.alloc (.cells #[.int .i64 0] 3)).alloc (.cells #[.int .i64 1] 3)).heap.size ((w.alloc (.cells #[.int .i64 0] 3)).alloc (.cells #[.int .i64 1] 3))).alloc (Nat.le_refl _) (.cells (onC w.heap.size nmX) 36)
    have q2 := (Below.refl (w.alloc (.cells #[.int .i64 0] 3)).heap.size (w.alloc (.cells #[.int .i64 0] 3))).alloc (Nat.le_refl _) (.cells #[.int .i64 1] 3)
    refine ⟨?_, ?_, ?_⟩
    · rw [← hW3]
      exact (q1.block _ (by rw [e2]; omega)).trans ((q2.block _ (by rw [e1]; omega)).trans (heap_alloc_new w _))
    · rw [← hW3]
      refine (q1.block _ (by rw [e2]; omega)).trans ?_
      simpa using heap_alloc_new (w.alloc (.cells #[.int .i64 0] 3)) (.cells #[.int .i64 1] 3)
    · rw [← hW3]
      have q3 := heap_alloc_new ((w.alloc (.cells #[.int .i64 0] 3)).alloc (.cells #[.int .i64 1] 3)) (.cells (onC w.heap.size nmX) 36)
      rw [e2] at q3
      exact q3
  have s3 : w.heap.size + 3 ≤ W3.heap.size := by have := h3.lt; omega
  have HC1 := Bx.mk (names_one W3 w.heap.size h3 (hL.below b3))
  have HB3 := Bx.mk b3
  have HL := Bx.mk hL
  have HO3 := Bx.mk h3
  clear b3 h3 hL
  go_enter Tryd.func8, Tryd.ntmps8
  unfold nilNames fltV at HC1
  -- behind the first call
  have HA1 : Bx (∀ W4, Below W3.heap.size W3 W4 → ∃ W5, (W4.alloc (.cells #[.slice none 0 0, .slice none 0 0] 28)).alloc (.cells #[.int .i64 8, .int .i64 51] 31) = W5 ∧ W5.cell? ⟨w.heap.size + 1 + 1, 3, none⟩ = some (.string ⟨#[120]⟩) ∧ W5.frozen? ⟨w.heap.size + 1 + 1, 3, none⟩ = false ∧
      Bx (W3.heap.size ≤ W4.heap.size ∧ OnAt (W5.setCell ⟨w.heap.size + 1 + 1, 3, none⟩ (.string inN)) w.heap.size inN ∧ Below w.heap.size w (W5.setCell ⟨w.heap.size + 1 + 1, 3, none⟩ (.string inN)) ∧ (W5.setCell ⟨w.heap.size + 1 + 1, 3, none⟩ (.string inN)).heap[W4.heap.size + 1]? = some (.cells #[.int .i64 8, .int .i64 51] 31 (0, 0)) ∧ (W5.setCell ⟨w.heap.size + 1 + 1, 3, none⟩ (.string inN)).heap.size = W4.heap.size + 2)) := ⟨fun W4 b4 => by
    obtain ⟨W5, hW5, b5, g50, g51, s5⟩ := pair_at W4 #[.slice none 0 0, .slice none 0 0] #[.int .i64 8, .int .i64 51] 28 31
    have z4 := b4.size
    have h5 : OnAt W5 w.heap.size nmX := (HO3.out.below b4 s3).below b5 (by omega)
    have hB : Below w.heap.size w W5 := HB3.out.trans ((b4.mono (by omega)).trans (b5.mono (by omega)))
    refine ⟨W5, hW5, (h5.cell 3).trans rfl, by simp [World.frozen?, h5.b2], z4, h5.turn inN, Below.setCell (p := ⟨w.heap.size + 2, 3, none⟩) hB (by simp) _, ?_, by simp [s5]⟩
    rw [heap_setCell_other _ _ _ _ (show W4.heap.size + 1 ≠ w.heap.size + 2 by omega)]
    exact g51⟩
  have HA2 : Bx (∀ W6 W4s, OnAt W6 w.heap.size inN → Below w.heap.size w W6 → W6.heap.size = W4s + 2 → W6.heap[W4s + 1]? = some (.cells #[.int .i64 8, .int .i64 51] 31 (0, 0)) → w.heap.size + 3 ≤ W4s →
      ∀ W7 rb fb, Below W6.heap.size W6 W7 → W7.cell? ⟨rb, 0, none⟩ = some (.int .i64 (-2)) → W7.cell? ⟨rb, 1, none⟩ = some (.int .i64 (-1)) → rb < W7.heap.size →
      ∃ W8a W8, (W7.alloc (.cells #[.slice (some ⟨rb, 0, none⟩) 3 3, .slice (some ⟨fb, 0, none⟩) 3 3] 28)).alloc (.cells #[.int .i64 0, .int .i64 0] 31) = W8a ∧ W8a.cell? ⟨W7.heap.size + 1, 0, none⟩ = some (.int .i64 0) ∧ W8a.cell? ⟨W7.heap.size + 1, 1, none⟩ = some (.int .i64 0) ∧ (∀ i, W8a.frozen? ⟨W7.heap.size + 1, i, none⟩ = false) ∧ (W8a.setCell ⟨W7.heap.size + 1, 0, none⟩ (.int .i64 0)).setCell ⟨W7.heap.size + 1, 1, none⟩ (.int .i64 0) = W8 ∧ Bx (Laid W8 ∧ ∀ W9, Below W8.heap.size W8 W9 → ∃ W10, (W9.alloc (.cells #[.slice none 0 0, .slice none 0 0] 28)).alloc (.cells #[.int .i64 0, .int .i64 25] 31) = W10 ∧ Bx (Below w.heap.size w W10) ∧
        W10.cell? ⟨W4s + 1, 0, none⟩ = some (.int .i64 8) ∧ W10.cell? ⟨W4s + 1, 1, none⟩ = some (.int .i64 51) ∧ W10.cell? ⟨W7.heap.size, 0, none⟩ = some (.slice (some ⟨rb, 0, none⟩) 3 3) ∧ W10.cell? ⟨W7.heap.size, 1, none⟩ = some (.slice (some ⟨fb, 0, none⟩) 3 3) ∧ W10.cell? ⟨W7.heap.size + 1, 0, none⟩ = some (.int .i64 0) ∧ W10.cell? ⟨W7.heap.size + 1, 1, none⟩ = some (.int .i64 0) ∧
        W10.cell? ⟨W9.heap.size + 1, 0, none⟩ = some (.int .i64 0) ∧ W10.cell? ⟨W9.heap.size + 1, 1, none⟩ = some (.int .i64 25) ∧ W10.cell? ⟨rb, 0, none⟩ = some (.int .i64 (-2)) ∧ W10.cell? ⟨rb, 1, none⟩ = some (.int .i64 (-1)))) := ⟨fun W6 W4s h6 B6 s6 g6 hs W7 rb fb b7 r0 r1 hrb => by
    obtain ⟨W8a, hW8, b8a, g80a, g81a, s8a⟩ := pair_at W7 #[.slice (some ⟨rb, 0, none⟩) 3 3, .slice (some ⟨fb, 0, none⟩) 3 3] #[.int .i64 0, .int .i64 0] 28 31
    have z7 := b7.size
    obtain ⟨W8, hW8b⟩ : ∃ W8, (W8a.setCell ⟨W7.heap.size + 1, 0, none⟩ (.int .i64 0)).setCell ⟨W7.heap.size + 1, 1, none⟩ (.int .i64 0) = W8 := ⟨_, rfl⟩
    have b8 : Below W7.heap.size W7 W8 := by rw [← hW8b]; exact Below.setCell (p := ⟨W7.heap.size + 1, 1, none⟩) (Below.setCell (p := ⟨W7.heap.size + 1, 0, none⟩) b8a (Nat.le_succ _) _) (Nat.le_succ _) _
    have g80 : W8.heap[W7.heap.size]? = some (.cells #[.slice (some ⟨rb, 0, none⟩) 3 3, .slice (some ⟨fb, 0, none⟩) 3 3] 28 (0, 0)) := by rw [← hW8b, heap_setCell_other _ _ _ _ (show W7.heap.size ≠ W7.heap.size + 1 by omega), heap_setCell_other _ _ _ _ (show W7.heap.size ≠ W7.heap.size + 1 by omega)]; exact g80a
    have g81 : W8.heap[W7.heap.size + 1]? = some (.cells #[.int .i64 0, .int .i64 0] 31 (0, 0)) := by rw [← hW8b, heap_setCell_same _ _ _ _ _ _ (heap_setCell_same _ _ _ _ _ _ g81a)]; simp
    have s8 : W8.heap.size = W7.heap.size + 2 := by rw [← hW8b]; simp [s8a]
    have z8 := b8.size
    have B8 : Below w.heap.size w W8 := B6.trans ((b7.mono (by omega)).trans (b8.mono (by omega)))
    refine ⟨W8a, W8, hW8, (cell_of_row W8a _ 0 _ _ _ g81a).trans rfl, (cell_of_row W8a _ 1 _ _ _ g81a).trans rfl, fun i => by simp [World.frozen?, g81a], hW8b, HL.out.below B8, fun W9 b9 => ?_⟩
    obtain ⟨W10, hW10, b10, g100, g101, s10⟩ := pair_at W9 #[.slice none 0 0, .slice none 0 0] #[.int .i64 0, .int .i64 25] 28 31
    have z9 := b9.size
    have k : ∀ b, b < W8.heap.size → W10.heap[b]? = W8.heap[b]? := fun b hb => (b10.block b (by omega)).trans (b9.block b hb)
    have k7 : ∀ b, b < W7.heap.size → W10.heap[b]? = W7.heap[b]? := fun b hb => (k b (by omega)).trans (b8.block b hb)
    have g6' : W10.heap[W4s + 1]? = some (.cells #[.int .i64 8, .int .i64 51] 31 (0, 0)) := (k7 _ (by omega)).trans ((b7.block _ (by omega)).trans g6)
    have g80' := (k W7.heap.size (by omega)).trans g80
    have g81' := (k (W7.heap.size + 1) (by omega)).trans g81
    refine ⟨W10, hW10, ⟨B8.trans ((b9.mono (by omega)).trans (b10.mono (by omega)))⟩, (cell_of_row W10 _ 0 _ _ _ g6').trans rfl, (cell_of_row W10 _ 1 _ _ _ g6').trans rfl, (cell_of_row W10 _ 0 _ _ _ g80').trans rfl, (cell_of_row W10 _ 1 _ _ _ g80').trans rfl, (cell_of_row W10 _ 0 _ _ _ g81').trans rfl, (cell_of_row W10 _ 1 _ _ _ g81').trans rfl, (cell_of_row W10 _ 0 _ _ _ g101).trans rfl, (cell_of_row W10 _ 1 _ _ _ g101).trans rfl, ?_, ?_⟩
    · rw [World.cell?_of_block (k7 rb hrb)]; exact r0
    · rw [World.cell?_of_block (k7 rb hrb)]; exact r1⟩
  go_wp2_with (first
    | (go_at_call 9; refine Calls.mono HC1.out ?_; clear HC1; rintro e W4 ⟨rfl, b4⟩; obtain ⟨W5, hW5, cn, fz, HX5⟩ := HA1.out W4 b4; have HC2 : Bx (Calls Tryd.prog 9 #[.slice (some ⟨w.heap.size + 1 + 1, 0, none⟩) 3 3] (W5.setCell ⟨w.heap.size + 1 + 1, 3, none⟩ (.string ⟨#[105, 110, 112, 117, 116]⟩)) _) := ⟨names_two _ w.heap.size HX5.out.2.1 (HL.out.below HX5.out.2.2.1)⟩; unfold fltV at HC2; clear b4)
    | (go_at_call 9; refine Calls.mono HC2.out ?_; clear HC2; rintro e W7 ⟨⟨rb, fb, rfl, r0, r1, hrb⟩, b7⟩; obtain ⟨W8a, W8, hW8, p0, p1, pf, hW8b, HX8⟩ := HA2.out _ W4.heap.size HX5.out.2.1 HX5.out.2.2.1 HX5.out.2.2.2.2 HX5.out.2.2.2.1 (by have := HX5.out.1; omega) W7 rb fb b7 r0 r1 hrb; have HC3 := Bx.mk (names_no W8 HX8.out.1); unfold nilNames fltV at HC3; clear b7 r0 r1)
    | (go_at_call 9; refine Calls.mono HC3.out ?_; clear HC3; rintro e W9 ⟨rfl, b9⟩; obtain ⟨W10, hW10, HB10, a1, a2, a3, a4, a5, a6, a7, a8, a9, a10⟩ := HX8.out.2 W9 b9; clear b9))
  go_ret
  exact ⟨rfl, HB10.out⟩
end Go.Proofs.YtjjbgbadkbomlaaDoor
