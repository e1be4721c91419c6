import Derived.Test.YtadmpgegolmkgaaDoorCWmD
namespace Go.Proofs.YtadmpgegolmkgaaDoor
open Go.RowKit Go.MapKept Go.ChangeMaps Go.WideShapes
set_option linter.unusedVariables false
set_option linter.unusedSimpArgs false

def wA0 : WA := ⟨.int .i64 0, .int .i64 0, .int .i64 0, .bool false, .slice none 0 0⟩
structure NwP (B : Nat) (w w' : World) (wb n : Nat) (g : WG) : Prop where
  r : WkR w' B wb g wA0 (List.replicate n (0, 0))
  gn : g.n = n
  top : szW g.n (g.L - 1) = 1
  l0 : 0 < g.L
  bel : Below B w w'
theorem nwp_of {w X : World} {kb db dc L n : Nat} {eb : Nat → Nat} (hd : DuE X db dc eb L n fun _ _ => false) (hk : X.heap[kb]? = some (.cells (kN (List.replicate n (0, 0))).toArray 66 (0, 0))) (hb : Below w.heap.size w X) (h1 : w.heap.size ≤ kb) (h2 : w.heap.size ≤ db) (h3 : ∀ l, l < L → w.heap.size ≤ eb l) (n4 : db ≠ kb) (t1 : szW n (L - 1) = 1) (t2 : 0 < L) {wb : Nat} (hwb : X.heap.size = wb) :
    NwP w.heap.size w (X.alloc (wkA ((⟨kb, n, db, dc, L, 0, eb⟩ : WG).h wA0) 0 (.slice none 0 0) (.map none))) wb n ⟨kb, n, db, dc, L, 0, eb⟩ := by
  subst hwb
  have b1 := below1 X (wkA ((⟨kb, n, db, dc, L, 0, eb⟩ : WG).h wA0) 0 (.slice none 0 0) (.map none))
  have x1 : Fx (fun _ => False) X (X.alloc (wkA ((⟨kb, n, db, dc, L, 0, eb⟩ : WG).h wA0) 0 (.slice none 0 0) (.map none))) := Fx.of b1
  have hs := hb.size
  have hdl := hd.dlt
  exact ⟨⟨hs, h1, h2, h3, (b1.block _ (heap_lt hk)).trans hk, List.length_replicate, hd.fx x1 id fun _ _ => id, ⟨by show db ≠ X.heap.size; omega, n4⟩, .inl ⟨0, heap_newH X _ _ rfl⟩⟩, rfl, t1, t2, hb.trans (b1.mono hs)⟩
set_option maxRecDepth 100000 in
set_option maxHeartbeats 2000000 in
theorem newWalker_all (w : World) (n : Nat) (h0 : 0 < n) (hn : n ≤ 2147483648) :
    Calls Tryd.prog 26 #[.int .i64 (n : Int)] w fun e w' => ∃ wb g, e = .returned (.pointer (some ⟨wb, 0, none⟩)) ∧ Bx (NwP w.heap.size w w' wb n g) := by
  have HD : Bx (∀ W, _) := ⟨fun W => newDue_all W n h0 hn⟩
  have hmk := fun W => make_wys W n hn
  go_enter Tryd.func26, Tryd.ntmps26
  go_wp2
  go_region_with (first
    | (go_at_call 39; refine (HD.out _).mono ?_; rintro e w1 ⟨db, dc, eb, L, rfl, HX⟩))
  · go_wp2
    go_ret
    have hx := HX.out
    have hs : (w.alloc (.cells (kN (List.replicate n (0, 0))).toArray 66)).drew.heap.size = w.heap.size + 1 := by simp
    rw [hs] at hx
    obtain ⟨q1, q2, q3, q4, q5, q6⟩ := hx
    exact ⟨_, _, rfl, ⟨nwp_of (w := w) (n := n) (kb := w.heap.size) q1 ((q2.block w.heap.size (by omega)).trans (heap_newH w _ _ rfl)) (Below.trans (b := (w.alloc (.cells (kN (List.replicate n (0, 0))).toArray 66)).drew) (below1 w _).drew (q2.mono (by omega))) (Nat.le_refl _) (by omega) (fun l hl => by have := q4 l hl; omega) (by omega) q5 q6 rfl⟩⟩
  · go_wp2
    go_ret
    obtain ⟨q1, q2, q3, q4, q5, q6⟩ := HX.out
    have hs := q2.size
    have hs' : w.heap.size ≤ w1.heap.size := hs
    have b1 := below1 w1 (.cells (kN (List.replicate n (0, 0))).toArray 66)
    have x1 : Fx (fun _ => False) w1 (w1.alloc (.cells (kN (List.replicate n (0, 0))).toArray 66)) := Fx.of b1
    have hdl := q1.dlt
    exact ⟨_, _, rfl, ⟨nwp_of (w := w) (n := n) (kb := w1.heap.size) (q1.fx x1 id fun _ _ => id) (heap_newH w1 _ _ rfl) (Below.trans ⟨q2.os, q2.tape, q2.output, q2.size, q2.block⟩ (b1.mono hs')) hs' q3 q4 (by omega) q5 q6 (by simp)⟩⟩
end Go.Proofs.YtadmpgegolmkgaaDoor
namespace Go.Proofs.YtadmpgegolmkgaaDoor
set_option linter.unusedVariables false
set_option linter.unusedSimpArgs false

/-! ### what lies behind the code's own ways is not seen -/
structure AgK (n : Nat) (K K' : List Wy) : Prop where
  l1 : n ≤ K.length
  l2 : n ≤ K'.length
  eq : ∀ i, i < n → kA K i = kA K' i
theorem AgK.come {n : Nat} {K K' : List Wy} (h : AgK n K K') {i : Nat} (hi : i < n) (p : Wy) : AgK n (comeK K i p) (comeK K' i p) := by
  have h1 := h.l1
  have h2 := h.l2
  refine ⟨by rw [comeK_len]; exact h1, by rw [comeK_len]; exact h2, fun j hj => ?_⟩
  rw [kA_come p (by omega), kA_come p (by omega), h.eq i hi, h.eq j hj]
theorem AgK.comeD {n : Nat} {K K' : List Wy} (h : AgK n K K') {i : Nat} (hi : i < n) (D : Nat → Bool) : comeD K i D = comeD K' i D := by
  funext j
  rw [comeD_at, comeD_at, h.eq i hi]
theorem AgK.comeB {n : Nat} {K K' : List Wy} (h : AgK n K K') {i : Nat} (hi : i < n) (p : Wy) : comeB K i p = comeB K' i p := by
  have := (h.come hi p).eq i hi
  unfold kA at this
  unfold Go.Proofs.YtadmpgegolmkgaaDoor.comeB
  rw [this]
theorem AgK.comeL {n : Nat} : ∀ (nx : List (Nat × Wy)) {K K' : List Wy} (D : Nat → Bool), AgK n K K' → (∀ q ∈ nx, q.1 < n) → (comeL nx K D).1 = (comeL nx K' D).1 ∧ AgK n (comeL nx K D).2.1 (comeL nx K' D).2.1 ∧ (comeL nx K D).2.2 = (comeL nx K' D).2.2
  | [], K, K', D, h, _ => ⟨rfl, h, rfl⟩
  | (i, p) :: r, K, K', D, h, hq => by
    have hi := hq (i, p) List.mem_cons_self
    have h1 := h.come hi p
    have h2 := h.comeB hi p
    have h3 := h.comeD hi D
    rw [Go.Proofs.YtadmpgegolmkgaaDoor.comeL, Go.Proofs.YtadmpgegolmkgaaDoor.comeL, h2, h3]
    split
    · exact AgK.comeL r _ h1 fun q hm => hq q (List.mem_cons_of_mem _ hm)
    · exact ⟨rfl, h1, rfl⟩
structure AgS (n : Nat) (s s' : Wst) : Prop where
  P : s.P = s'.P
  K : AgK n s.K s'.K
  D : s.D = s'.D
theorem look_agr {n L i : Nat} {sl : Int} {res : Bool} {x : CIn} {p : Wy} {s s' : Wst} (hx : LkX n sl i x) (hi : i < n) (h : AgS n s s') : (lookP n res L i x p s).1 = (lookP n res L i x p s').1 ∧ AgS n (lookP n res L i x p s).2 (lookP n res L i x p s').2 := by
  unfold lookP
  rw [← h.P]
  split
  · exact ⟨rfl, h⟩
  · split
    · exact ⟨rfl, h⟩
    · split
      · exact ⟨rfl, h⟩
      · split
        · exact ⟨rfl, h⟩
        · rename_i hb
          have ht := hx.tgok hi hb
          obtain ⟨c1, c2, c3⟩ := AgK.comeL (nextsI i x (abN x p, (past L s.P p.2 x.op x.a).2)) s.D h.K fun q hq => (nexts_mem ht hq).1
          unfold goP
          rw [← h.P, ← h.D]
          exact ⟨by rw [c1], ⟨rfl, c2, c3⟩⟩
theorem run_agr {n L : Nat} {sl : Int} {res : Bool} {code : List CIn} (hx : ∀ i, i < n → LkX n sl i (inA code i)) : ∀ (f : Nat) {s s' : Wst}, AgS n s s' → (runP n res L code f s).1 = (runP n res L code f s').1 ∧ (runP n res L code f s).2.1 = (runP n res L code f s').2.1 ∧ AgS n (runP n res L code f s).2.2 (runP n res L code f s').2.2
  | 0, s, s', h => ⟨rfl, rfl, h⟩
  | f + 1, s, s', h => by
    rw [runP, runP, ← h.D]
    cases hi : leastD n s.D with
    | none => exact ⟨rfl, rfl, h⟩
    | some i =>
      simp only
      obtain ⟨hin, _⟩ := least_some hi
      rw [← h.K.eq i hin, ← h.P]
      obtain ⟨e1, e2⟩ := look_agr (res := res) (L := L) (p := kA s.K i) (s := ⟨s.P, s.K, del i s.D⟩) (s' := ⟨s.P, s'.K, del i s.D⟩) (hx i hin) hin ⟨rfl, h.K, rfl⟩
      rw [← e1]
      split
      · exact run_agr hx f e2
      · exact ⟨rfl, e1, e2⟩
theorem PgOk.insA {pg : CPg} {sl pr : Nat} (h : PgOk pg sl pr) {i : Nat} (hi : i < pg.code.length) : LkX pg.code.length pg.slots i (inA pg.code i) ∧ (inA pg.code i).Wf ∧ (inA pg.code i).list.length ≤ 281474976710656 := h.ins i _ (by unfold inA; rw [List.getElem?_eq_getElem hi]; rfl)
/-- **WHAT A WALKER WAS USED FOR IS NOT SEEN** -/
theorem run0_agr {pg : CPg} {sl pr : Nat} (hp : PgOk pg sl pr) {K K' : List Wy} (h1 : pg.code.length ≤ K.length) (h2 : pg.code.length ≤ K'.length) : (run0 sl pr pg.res pg.code K).1 = (run0 sl pr pg.res pg.code K').1 ∧ (run0 sl pr pg.res pg.code K).2.1 = (run0 sl pr pg.res pg.code K').2.1 ∧ AgS pg.code.length (run0 sl pr pg.res pg.code K).2.2 (run0 sl pr pg.res pg.code K').2.2 := by
  have hc : AgK pg.code.length (clearK pg.code.length K) (clearK pg.code.length K') := ⟨by rw [clearK_len h1]; exact h1, by rw [clearK_len h2]; exact h2, fun i hi => by rw [kA_clear hi, kA_clear hi]⟩
  exact run_agr (fun i hi => (hp.insA hi).1) _ ⟨rfl, hc.come hp.n0 _, hc.comeD hp.n0 _⟩
/-- the way through a prog -/
def way1 (p : CPg) : Nat × Int × Wst := run0 p.slots.toNat p.params.toNat p.res p.code (List.replicate p.code.length (0, 0))
def wayR : List CPg → Nat → Nat × Nat × Int
  | [], _ => (0, 0, 0)
  | p :: r, k => if (way1 p).2.1 = 0 then wayR r (k + 1) else (k, (way1 p).1, (way1 p).2.1)
theorem wayR_at {l : List CPg} {k : Nat} (h : k < l.length) : wayR (l.drop k) k = if (way1 l[k]).2.1 = 0 then wayR (l.drop (k + 1)) (k + 1) else (k, (way1 l[k]).1, (way1 l[k]).2.1) := by
  rw [List.drop_eq_getElem_cons h, wayR]
def longI : List CPg → Nat
  | [] => 0
  | p :: r => max p.code.length (longI r)
theorem long_le {l : List CPg} {p : CPg} (h : p ∈ l) : p.code.length ≤ longI l := by
  induction l with
  | nil => cases h
  | cons q r ih =>
    rw [longI]
    rcases List.mem_cons.1 h with e | e
    · subst e; omega
    · have := ih e; omega
theorem long_mem : ∀ {l : List CPg}, l = [] ∨ ∃ p ∈ l, longI l = p.code.length
  | [] => .inl rfl
  | q :: r => by
    refine .inr ?_
    rw [longI]
    by_cases h : longI r ≤ q.code.length
    · exact ⟨q, List.mem_cons_self, by omega⟩
    · rcases long_mem (l := r) with e | ⟨p, hp, e⟩
      · subst e; simp [longI] at h
      · exact ⟨p, List.mem_cons_of_mem _ hp, by omega⟩
def maxGo : List CPg → Nat → Nat
  | [], m => m
  | p :: r, m => maxGo r (max m p.code.length)
theorem maxGo_eq : ∀ (l : List CPg) (m : Nat), maxGo l m = max m (longI l)
  | [], m => by simp [maxGo, longI]
  | p :: r, m => by rw [maxGo, maxGo_eq r, longI]; omega
theorem maxGo_at {l : List CPg} {k m : Nat} (h : k < l.length) : maxGo (l.drop k) m = maxGo (l.drop (k + 1)) (max m l[k].code.length) := by
  rw [List.drop_eq_getElem_cons h, maxGo]
end Go.Proofs.YtadmpgegolmkgaaDoor
