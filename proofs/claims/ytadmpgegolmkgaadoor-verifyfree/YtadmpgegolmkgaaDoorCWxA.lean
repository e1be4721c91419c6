import Derived.Test.YtadmpgegolmkgaaDoorCWcB
namespace Go.Proofs.YtadmpgegolmkgaaDoor
open Go.RowKit
set_option linter.unusedVariables false
set_option linter.unusedSimpArgs false

/-! ### what is not looked at: the numbers of IInt, and which bool it is -/
structure Sm (x x' : CIn) : Prop where
  op : x'.op = x.op
  b : x'.b = x.b
  ls : x'.list = x.list
  a : x'.a = x.a ∨ x.op = 1 ∨ (x.op = 2 ∧ (x.a = 0 ∨ x.a = 1) ∧ (x'.a = 0 ∨ x'.a = 1))
theorem Sm.refl (x : CIn) : Sm x x := ⟨rfl, rfl, rfl, .inl rfl⟩
theorem Sm.a' {x x' : CIn} (h : Sm x x') (h1 : x.op ≠ 1) (h2 : x.op ≠ 2) : x'.a = x.a := by
  rcases h.a with e | e | e
  · exact e
  · exact absurd e h1
  · exact absurd e.1 h2
theorem Sm.more {x x' : CIn} (h : Sm x x') : moreI x' = moreI x := by
  unfold moreI
  rw [h.op, h.b, h.ls]
  by_cases e : x.op = 10 ∨ x.op = 11 ∨ x.op = 23 ∨ x.op = 24
  · rw [if_pos e, if_pos e, h.a' (by omega) (by omega)]
  · rw [if_neg e, if_neg e]
theorem Sm.pops {x x' : CIn} (h : Sm x x') : popsI x' = popsI x := by
  unfold popsI
  rw [h.more, h.op]
theorem Sm.pushes {x x' : CIn} (h : Sm x x') : pushesI x' = pushesI x := by
  unfold pushesI
  rw [h.op, h.b]
theorem Sm.nexts {x x' : CIn} (h : Sm x x') (i : Nat) (p : Wy) : nextsI i x' p = nextsI i x p := by
  unfold nextsI
  rw [h.op, h.ls]
  by_cases e : x.op = 19 ∨ x.op = 20 ∨ x.op = 21
  · rw [h.a' (by omega) (by omega)]
  · split
    · rfl
    · split
      · omega
      · split
        · omega
        · rfl
theorem Sm.past {x x' : CIn} (h : Sm x x') (L : Nat) (P : Prs) (s : Nat) : past L P s x'.op x'.a = past L P s x.op x.a := by
  rw [h.op]
  by_cases e : x.op = 5 ∨ x.op = 6
  · rw [h.a' (by omega) (by omega)]
  · unfold Proofs.YtadmpgegolmkgaaDoor.past
    rw [if_neg (by omega), if_neg (by omega), if_neg (by omega), if_neg (by omega)]
theorem Sm.look {x x' : CIn} (h : Sm x x') (n : Nat) (res : Bool) (L i : Nat) (p : Wy) (s : Wst) : lookP n res L i x' p s = lookP n res L i x p s := by
  have hg : goP L i x' p s = goP L i x p s := by
    unfold goP abN
    rw [h.past, h.nexts, h.pops, h.pushes]
  have hn : (needB x'.op = true ∧ den L s.P p.2 x'.a.toNat = false) = (needB x.op = true ∧ den L s.P p.2 x.a.toNat = false) := by
    rw [h.op]
    by_cases e : needB x.op = true
    · have : x.op = 4 ∨ x.op = 6 ∨ x.op = 16 := by
        unfold needB at e
        simp at e
        omega
      rw [h.a' (by omega) (by omega)]
    · simp [e]
  unfold lookP
  rw [hg, h.past, h.pops]
  simp only [hn]
  rw [h.op]
theorem run_sm {n : Nat} {res : Bool} {L : Nat} {c c' : List CIn} (h : ∀ i, i < n → Sm (inA c i) (inA c' i)) : ∀ (f : Nat) (s : Wst), runP n res L c' f s = runP n res L c f s
  | 0, s => rfl
  | f + 1, s => by
    rw [runP, runP]
    cases hi : leastD n s.D with
    | none => rfl
    | some i =>
      simp only
      rw [(h i (least_some hi).1).look]
      split
      · exact run_sm h f _
      · rfl
structure SmP (p p' : CPg) : Prop where
  params : p'.params = p.params
  slots : p'.slots = p.slots
  caps : p'.caps = p.caps
  res : p'.res = p.res
  len : p'.code.length = p.code.length
  code : ∀ i, i < p.code.length → Sm (inA p.code i) (inA p'.code i)
theorem SmP.way {p p' : CPg} (h : SmP p p') : way1 p' = way1 p := by
  unfold way1 run0
  rw [h.params, h.slots, h.res, h.len]
  exact run_sm h.code _ _
theorem SmP.high {p p' : CPg} (h : SmP p p') : highs p' = highs p := by
  unfold highs
  rw [h.way, h.len]
/-- what VerifyFree writes -/
def blind (n : Int) (x : CIn) : CIn := if x.op = 1 then ⟨x.op, n, x.b, x.list⟩ else if x.op = 2 ∧ (x.a = 0 ∨ x.a = 1) then ⟨x.op, 1 - x.a, x.b, x.list⟩ else x
def blindP (n : Int) (p : CPg) : CPg := ⟨p.params, p.slots, p.caps, p.res, p.code.map (blind n)⟩
def blindU (n : Int) (u : CUn) : CUn := ⟨u.progs.map (blindP n), u.types⟩
theorem blind_sm (n : Int) (x : CIn) : Sm x (blind n x) := by
  unfold blind
  split
  · rename_i e
    exact ⟨rfl, rfl, rfl, .inr (.inl e)⟩
  · split
    · rename_i e
      exact ⟨rfl, rfl, rfl, .inr (.inr ⟨e.1, e.2, by show 1 - x.a = 0 ∨ 1 - x.a = 1; omega⟩)⟩
    · exact Sm.refl x
theorem blind_smP (n : Int) (p : CPg) : SmP p (blindP n p) := ⟨rfl, rfl, rfl, rfl, by simp [blindP], fun i hi => by
  have : inA (blindP n p).code i = blind n (inA p.code i) := by
    unfold inA blindP
    simp [hi]
  rw [this]
  exact blind_sm n _⟩
theorem blind_way (n : Int) : ∀ (l : List CPg) (k : Nat), wayR (l.map (blindP n)) k = wayR l k
  | [], k => rfl
  | p :: r, k => by rw [List.map_cons, wayR, wayR, (blind_smP n p).way, blind_way n r]
theorem blind_long (n : Int) : ∀ (l : List CPg) (k : Nat), longGo (l.map (blindP n)) k = longGo l k
  | [], k => rfl
  | p :: r, k => by rw [List.map_cons, longGo, longGo, (blind_smP n p).len, blind_long n r]
theorem blind_bad (n : Int) : ∀ (l : List CPg) (k : Nat), badGo (l.map (blindP n)) k = badGo l k
  | [], k => rfl
  | p :: r, k => by
    have : badP (blindP n p) k = badP p k := by
      unfold badP boundsI firstPI
      rw [(blind_smP n p).len]
      rfl
    rw [List.map_cons, badGo, badGo, this, blind_bad n r]
theorem blind_prog (n : Int) (u : CUn) : progR (blindU n u) = progR u := by
  unfold progR
  rw [show (blindU n u).types = u.types from rfl, show (blindU n u).progs = u.progs.map (blindP n) from rfl, blind_long, blind_bad, List.length_map]
/-- an instruction on its own, in units and progs that are alike -/
theorem Sm.wrong {x x' : CIn} (h : Sm x x') {u u' : CUn} (dfs : List Bool) {pg pg' : CPg} (i : Nat) (h1 : u'.progs.length = u.progs.length) (h2 : ∀ k, (u'.progs.getD k pgD).caps = (u.progs.getD k pgD).caps) (h3 : pg'.slots = pg.slots) (h4 : pg'.caps = pg.caps) (h5 : pg'.code.length = pg.code.length) : wrongI u' dfs pg' i x' = wrongI u dfs pg i x := by
  unfold wrongI
  rw [h.op, h5]
  by_cases hop : x.op < 1 ∨ 27 < x.op
  · rw [if_pos hop, if_pos hop]
  rw [if_neg hop, if_neg hop]
  by_cases e1 : x.op = 1
  · have hv : vsI x.op = (1, 0, 0) := by rw [e1]; rfl
    simp [hv, formedI, slotI, targetsI, fitsI, h.b, h.ls, listI]
  by_cases e2 : x.op = 2
  · have hv : vsI x.op = (2, 0, 0) := by rw [e2]; rfl
    have hin : inI x'.a 1 = inI x.a 1 := by
      rcases h.a with e | e | ⟨_, e, e'⟩
      · rw [e]
      · exact absurd e e1
      · rcases e with e | e <;> rcases e' with e' | e' <;> rw [e, e'] <;> rfl
    simp [hv, formedI, slotI, targetsI, fitsI, h.b, h.ls, listI, hin]
  have ha := h.a' e1 e2
  have hf : formedI u' dfs (vsI x.op) x' = formedI u dfs (vsI x.op) x := by
    unfold formedI
    rw [h1, h2, ha, h.b, h.ls]
  have hs : slotI pg' (vsI x.op).1 x'.a = slotI pg (vsI x.op).1 x.a := by
    unfold slotI
    rw [h3, h4, ha]
  have ht : targetsI pg.code.length (vsI x.op) i x' = targetsI pg.code.length (vsI x.op) i x := by
    unfold targetsI
    rw [ha, h.ls]
  rw [hf, hs, ht]
theorem blind_caps (n : Int) (u : CUn) (k : Nat) : ((blindU n u).progs.getD k pgD).caps = (u.progs.getD k pgD).caps := by
  show ((u.progs.map (blindP n)).getD k pgD).caps = _
  rw [List.getD_eq_getElem?_getD, List.getD_eq_getElem?_getD, List.getElem?_map]
  cases u.progs[k]? <;> rfl
theorem blind_go (n : Int) (u : CUn) (dfs : List Bool) (p : CPg) : ∀ (l : List CIn) (i : Nat), aloneGo (blindU n u) dfs (blindP n p) (l.map (blind n)) i = aloneGo u dfs p l i
  | [], i => rfl
  | x :: r, i => by
    rw [List.map_cons, aloneGo, aloneGo, (blind_sm n x).wrong (u := u) (u' := blindU n u) dfs (pg := p) (pg' := blindP n p) i (by simp [blindU]) (blind_caps n u) rfl rfl (blind_smP n p).len, blind_go n u dfs p r]
theorem blind_alone (n : Int) (u : CUn) (dfs : List Bool) : ∀ (l : List CPg) (k : Nat), aloneR (blindU n u) dfs (l.map (blindP n)) k = aloneR u dfs l k
  | [], k => rfl
  | p :: r, k => by rw [List.map_cons, aloneR, aloneR, show (blindP n p).code = p.code.map (blind n) from rfl, blind_go, blind_alone n u dfs r]
/-- **BLIND** -/
theorem blind_check (n : Int) (u : CUn) : checkR (blindU n u) = checkR u := by
  unfold checkR
  rw [blind_prog, show (blindU n u).types = u.types from rfl, show (blindU n u).progs = u.progs.map (blindP n) from rfl, blind_alone, blind_way]
end Go.Proofs.YtadmpgegolmkgaaDoor
namespace Go.Proofs.YtadmpgegolmkgaaDoor
open Go.RowKit
set_option linter.unusedVariables false
set_option linter.unusedSimpArgs false

/-! ### a prog behind the others -/
def qP : CPg := ⟨1, 1, 3, false, [⟨25, 0, 0, []⟩]⟩
def moreU (u : CUn) : CUn := ⟨u.progs ++ [qP], u.types⟩
def manyU (l : List CPg) : Nat := (l.map fun p => p.code.length).sum
theorem long_app : ∀ (l : List CPg) (n : Nat), longGo l n = decide (n < manyU l)
  | [], n => by simp [longGo, manyU]
  | p :: r, n => by
    rw [longGo, long_app r]
    unfold manyU
    rw [List.map_cons, List.sum_cons]
    split
    · rename_i e
      rw [decide_eq_true (by omega)]
    · exact decide_eq_decide.2 (by omega)
theorem many_app (l : List CPg) : manyU (l ++ [qP]) = manyU l + 1 := by
  unfold manyU
  rw [List.map_append, List.sum_append]
  rfl
theorem bad_app : ∀ (l : List CPg) (k : Nat), 0 < k + l.length → (badGo l k).2 = false → (badGo (l ++ [qP]) k).2 = false
  | [], k, h, _ => by
    have : badP qP k = false := by
      unfold badP
      have hk : (k == 0) = false := by simp at h ⊢; omega
      rw [hk]
      decide
    rw [List.nil_append, badGo, this]
    rfl
  | p :: r, k, h, hb => by
    rw [List.cons_append, badGo]
    rw [badGo] at hb
    split
    · rename_i e
      rw [if_pos e] at hb
      cases hb
    · rename_i e
      rw [if_neg e] at hb
      exact bad_app r (k + 1) (by omega) hb
theorem way_app : ∀ (l : List CPg) (k : Nat), (wayR l k).2.2 = 0 → (wayR (l ++ [qP]) k).2.2 = 0
  | [], k, _ => by
    have : (way1 qP).2.1 = 0 := by decide +kernel
    rw [List.nil_append, wayR, if_pos this]
    rfl
  | p :: r, k, h => by
    rw [List.cons_append, wayR]
    rw [wayR] at h
    split
    · rename_i e
      rw [if_pos e] at h
      exact way_app r (k + 1) h
    · rename_i e
      rw [if_neg e] at h
      exact absurd h e
theorem fits_app {dfs : List Bool} {np : Nat} {v n : Int} (h : fitsI dfs np v n = true) : fitsI dfs (np + 1) v n = true := by
  unfold fitsI at h ⊢
  by_cases e : v = 8
  · subst e
    simp [inI] at h ⊢
    omega
  · by_cases e0 : v = 0
    · rw [if_pos e0] at h ⊢; exact h
    rw [if_neg e0] at h ⊢
    by_cases e2 : v = 2
    · rw [if_pos e2] at h ⊢; exact h
    rw [if_neg e2] at h ⊢
    by_cases e3 : v = 3
    · rw [if_pos e3] at h ⊢; exact h
    rw [if_neg e3] at h ⊢
    by_cases e4 : v = 4
    · rw [if_pos e4] at h ⊢; exact h
    rw [if_neg e4] at h ⊢
    by_cases e5 : v = 5
    · rw [if_pos e5] at h ⊢; exact h
    rw [if_neg e5] at h ⊢
    by_cases e6 : v = 6
    · rw [if_pos e6] at h ⊢; exact h
    rw [if_neg e6] at h ⊢
    by_cases e7 : v = 7
    · rw [if_pos e7] at h ⊢; exact h
    rw [if_neg e7, if_neg e] at h ⊢
theorem wrong_app {u : CUn} {dfs : List Bool} {pg : CPg} {i : Nat} {x : CIn} (h : wrongI u dfs pg i x = 0) : wrongI (moreU u) dfs pg i x = 0 := by
  obtain ⟨h1, h2, h3, h4, h5⟩ := wrong_zero h
  have hl : (moreU u).progs.length = u.progs.length + 1 := by simp [moreU]
  have hf : formedI (moreU u) dfs (vsI x.op) x = true := by
    unfold formedI at h3 ⊢
    rw [Bool.and_eq_true, Bool.and_eq_true] at h3
    obtain ⟨a1, a2, a3⟩ := h3
    rw [hl, Bool.and_eq_true, Bool.and_eq_true]
    refine ⟨fits_app a1, a2, ?_⟩
    by_cases e : (vsI x.op).2.1 = 9
    · rw [if_pos e] at a3 ⊢
      have hv : (vsI x.op).1 = 8 := vs_nine x.op.toNat (by omega) e
      rw [hv] at a1
      simp [fitsI, inI] at a1
      have : x.a.toNat < u.progs.length := by omega
      show (x.b == ((u.progs ++ [qP]).getD x.a.toNat pgD).caps) = true
      rw [List.getD_eq_getElem?_getD, List.getElem?_append_left this, ← List.getD_eq_getElem?_getD]
      exact a3
    · rw [if_neg e] at a3 ⊢
      exact fits_app a3
  unfold wrongI
  rw [if_neg (by omega), if_neg (by rw [hf]; simp), if_neg (by rw [h4]; simp), if_neg (by rw [h5]; simp)]
theorem go_app {u : CUn} {dfs : List Bool} {pg : CPg} : ∀ (l : List CIn) (i : Nat), (aloneGo u dfs pg l i).2 = 0 → (aloneGo (moreU u) dfs pg l i).2 = 0
  | [], i, _ => rfl
  | x :: r, i, h => by
    rw [aloneGo] at h ⊢
    by_cases e : wrongI u dfs pg i x = 0
    · rw [if_pos e] at h
      rw [if_pos (wrong_app e)]
      exact go_app r (i + 1) h
    · rw [if_neg e] at h
      exact absurd h e
theorem alone_q (u : CUn) (dfs : List Bool) : (aloneGo u dfs qP qP.code 0).2 = 0 := by
  have : wrongI u dfs qP 0 ⟨25, 0, 0, []⟩ = 0 := by
    unfold wrongI
    rw [show vsI 25 = (0, 0, 0) from rfl]
    simp [formedI, fitsI, slotI, targetsI, listI]
  show (aloneGo u dfs qP [⟨25, 0, 0, []⟩] 0).2 = 0
  rw [aloneGo, if_pos this]
  rfl
theorem alone_app {u : CUn} {dfs : List Bool} : ∀ (l : List CPg) (k : Nat), (aloneR u dfs l k).2.2 = 0 → (aloneR (moreU u) dfs (l ++ [qP]) k).2.2 = 0
  | [], k, _ => by
    rw [List.nil_append, aloneR, if_pos (alone_q (moreU u) dfs)]
    rfl
  | p :: r, k, h => by
    rw [List.cons_append, aloneR]
    rw [aloneR] at h
    by_cases e : (aloneGo u dfs p p.code 0).2 = 0
    · rw [if_pos e] at h
      rw [if_pos (go_app p.code 0 e)]
      exact alone_app r (k + 1) h
    · rw [if_neg e] at h
      exact absurd h e
/-- **A PROG BEHIND THE OTHERS** -/
theorem more_check {u : CUn} (h : (checkR u).2.2 = 0) (hm : manyU u.progs < 268435456) : (checkR (moreU u)).2.2 = 0 := by
  obtain ⟨z1, z2, z3⟩ := check_zero h
  have hp : (progR (moreU u)).2 = false := by
    unfold progR at z1 ⊢
    split at z1
    · cases z1
    · rename_i e
      have e0 : ¬ u.progs.length = 0 := fun q => e (.inl q)
      have e1 : ¬ validI u.types = false := fun q => e (.inr (.inl q))
      have hlong : longGo (u.progs ++ [qP]) 268435456 = false := by
        rw [long_app, many_app, decide_eq_false (by omega)]
      rw [if_neg (by
        show ¬ ((u.progs ++ [qP]).length = 0 ∨ validI u.types = false ∨ longGo (u.progs ++ [qP]) 268435456 = true)
        rw [hlong]
        simp [e1])]
      exact bad_app u.progs 0 (by omega) z1
  have ha : (aloneR (moreU u) (dfL u.types) (u.progs ++ [qP]) 0).2.2 = 0 := alone_app u.progs 0 z2
  unfold checkR
  rw [if_neg (by rw [hp]; simp), show (moreU u).types = u.types from rfl, show (moreU u).progs = u.progs ++ [qP] from rfl, if_pos ha]
  exact way_app u.progs 0 z3
theorem more_high {u : CUn} (h : (checkR u).2.2 = 0) (hm : manyU u.progs < 268435456) : highR (moreU u) (u.progs.length : Int) = [0] := by
  have hl : (moreU u).progs.length = u.progs.length + 1 := by simp [moreU]
  unfold highR
  rw [if_pos ⟨by omega, by omega, more_check h hm⟩, show ((u.progs.length : Int)).toNat = u.progs.length by omega, show (moreU u).progs = u.progs ++ [qP] from rfl, List.getD_eq_getElem?_getD, List.getElem?_append_right (Nat.le_refl _), Nat.sub_self]
  show highs qP = [0]
  decide +kernel
end Go.Proofs.YtadmpgegolmkgaaDoor
namespace Go.Proofs.YtadmpgegolmkgaaDoor
open Go.RowKit
set_option linter.unusedVariables false
set_option linter.unusedSimpArgs false

/-! ### a unit that is lent: rows of one's own, a mark behind each list -/
theorem infoTy : (Tryd.prog.info? 49).map (fun i => (i.zero, i.size, i.bytes)) = some (some (.agg #[.int .i64 0, .slice none 0 0, .bool false]), 3, 40) := by kernel_rfl
theorem infoIn : (Tryd.prog.info? 43).map (fun i => (i.zero, i.size, i.bytes)) = some (some (.agg #[.int .i64 0, .int .i64 0, .int .i64 0, .slice none 0 0]), 4, 48) := by kernel_rfl
theorem infoPg : (Tryd.prog.info? 40).map (fun i => (i.zero, i.size, i.bytes)) = some (some (.agg #[.int .i64 0, .int .i64 0, .int .i64 0, .bool false, .slice none 0 0]), 5, 56) := by kernel_rfl
def rowI (l : List Int) : List Value := l.map (.int .i64)
/-- numbers in a row of one's own, with a mark behind them -/
structure KidAt (W : World) (B g c : Nat) (l : List Int) : Prop where
  base : B ≤ g
  blk : ∃ cs, W.heap[g]? = some (.cells cs 3 (0, 0))
  cap : l.length + 1 ≤ c
  max : c ≤ maxLen
  at_ : ∀ i (h : i < l.length), W.cell? ⟨g, i, none⟩ = some (.int .i64 l[i])
  mark : W.cell? ⟨g, l.length, none⟩ = some (.int .i64 (-7))
theorem KidAt.lt {W : World} {B g c : Nat} {l : List Int} (h : KidAt W B g c l) : g < W.heap.size := by
  obtain ⟨cs, h1⟩ := h.blk
  exact heap_lt h1
theorem KidAt.later {W W' : World} {B B' g c : Nat} {l : List Int} (h : KidAt W B g c l) (hb : W'.heap[g]? = W.heap[g]?) (hB : B' ≤ B) : KidAt W' B' g c l := by
  obtain ⟨cs, h1⟩ := h.blk
  have hc : ∀ i, W'.cell? ⟨g, i, none⟩ = W.cell? ⟨g, i, none⟩ := fun i => World.cell?_of_block (a := ⟨g, i, none⟩) hb
  exact ⟨Nat.le_trans hB h.base, ⟨cs, hb.trans h1⟩, h.cap, h.max, fun i hi => by rw [hc]; exact h.at_ i hi, by rw [hc]; exact h.mark⟩
theorem KidAt.ints {W : World} {B g c : Nat} {l : List Int} (h : KidAt W B g c l) : IntsV W W.heap.size (some ⟨g, 0, none⟩) c l :=
  ⟨by have := h.cap; omega, by have := h.cap; have := h.max; omega, fun _ => ⟨g, 0, rfl, h.lt, fun i hi => by rw [Nat.zero_add]; exact h.at_ i hi⟩⟩
theorem own_caps {W : World} {B s n g k c : Nat} {t : TypeId} {cs : List Value} (h : W.ownsRow B t s (.slice (some ⟨g, 0, none⟩) k c) n cs) : n ≤ c ∧ c ≤ maxLen := by
  rcases h.2 with ⟨e, _⟩ | ⟨g', cap, cur, e, hB, hg, q1, q2, q3, q4⟩
  · cases e
  · simp only [Value.slice.injEq] at e
    obtain ⟨_, _, rfl⟩ := e
    exact ⟨q1, q2⟩
theorem own_blk {W : World} {B s n g k c : Nat} {t : TypeId} {cs : List Value} (h : W.ownsRow B t s (.slice (some ⟨g, 0, none⟩) k c) n cs) : ∃ cur, W.heap[g]? = some (.cells cur t (0, 0)) := by
  rcases h.2 with ⟨e, _⟩ | ⟨g', cap, cur, e, hB, hg, q1, q2, q3, q4⟩
  · cases e
  · simp only [Value.slice.injEq, Option.some.injEq, Addr.mk.injEq] at e
    obtain ⟨⟨rfl, _⟩, _⟩ := e
    exact ⟨cur, hg⟩
set_option maxHeartbeats 2000000 in
/-- a list copied, and a mark behind it -/
theorem mark_list (W : World) (B : Nat) (hB : B ≤ W.heap.size) (ka : Option Addr) (kc : Nat) (l : List Int) (hk : IntsV W B ka kc l) (hl : l.length ≤ 2147483647) :
    ∃ v2 W2 g c W3, (∀ ty, (Builtin.append_ #[32, 32] ty #[.slice none 0 0, .slice ka l.length kc]).run Tryd.prog W = .ok v2 W2) ∧ (∀ ty, (Builtin.append_ #[32, 32] ty #[v2, .slice (some ⟨W2.heap.size, 0, none⟩) 1 1]).run Tryd.prog (W2.alloc (.cells #[.int .i64 (-7)] 3)) = .ok (.slice (some ⟨g, 0, none⟩) (l.length + 1) c) W3) ∧ l.length + 1 ≤ c ∧ KidAt W3 W.heap.size g c l ∧ Below W.heap.size W W3 := by
  obtain ⟨i0, hi0, iz0, iz1, iz2⟩ := info_parts infoInt
  have n1 : W.ownsRow W.heap.size 3 1 (.slice none 0 0) 0 [] := ⟨rfl, .inl ⟨rfl, rfl⟩⟩
  have hnews : 0 < l.length → ∃ ad, ka = some ad ∧ ∀ j u, (rowI l)[j]? = some u → W.cell? (ad.add j) = some u := fun h0 => by
    obtain ⟨b, o, e, hb, hc⟩ := hk.at_ h0
    refine ⟨⟨b, o, none⟩, e, fun j u hu => ?_⟩
    unfold rowI at hu
    rw [List.getElem?_map] at hu
    obtain ⟨x, hx, rfl⟩ := Option.map_eq_some_iff.1 hu
    obtain ⟨hj, rfl⟩ := List.getElem?_eq_some_iff.1 hx
    have e2 : (⟨b, o, none⟩ : Addr).add j = ⟨b, o + j, none⟩ := by
      unfold Addr.add
      split <;> simp_all
    rw [e2]
    exact hc j hj
  obtain ⟨v2, W2, r2, n2, q2⟩ := appL Tryd.underlying32 hi0 iz0 iz1 iz2 rfl (by decide) W W.heap.size _ 0 [] n1 ka l.length kc (rowI l) (by simp [rowI]) hnews (fun u hu => by
    obtain ⟨x, _, rfl⟩ := List.mem_map.1 hu
    rfl) (by unfold maxLen; omega) (by omega) (by omega)
  rw [List.nil_append, Nat.zero_add] at n2
  have b2 : Below W.heap.size W W2 := (Below.refl _ _).grown q2 (by omega) fun k hk => (owns_block n1 hk).1
  obtain ⟨g, c, W3, r3, n3, q3, hcp, _⟩ := app1 Tryd.underlying32 hi0 iz0 iz1 iz2 rfl (by decide) W2 W.heap.size v2 l.length _ n2 #[.int .i64 (-7)] rfl (by simp [Value.oneCell']) (by unfold maxLen; omega) (by omega) b2.size
  have b3 : Below W.heap.size W2 W3 := (Below.refl _ _).grown q3 b2.size fun k hk => (owns_block n2 hk).1
  refine ⟨v2, W2, g, c, W3, r2, r3, hcp, ⟨(owns_block n3 (g := g) rfl).1, own_blk n3, hcp, (own_caps n3).2, fun i hi => ?_, ?_⟩, b2.trans b3⟩
  · exact owns_cellj n3 (by rw [List.getElem?_append_left (by simpa [rowI] using hi)]; simp [rowI, hi])
  · exact owns_cellj n3 (by rw [List.getElem?_append_right (by simp [rowI])]; simp [rowI])
/-- types as they are lent -/
def tyC1 (t : CTy) (g : Nat × Nat) : List Value := [.int .i64 t.kind, .slice (some ⟨g.1, 0, none⟩) t.kids.length g.2, .bool t.res]
def tyC : List CTy → List (Nat × Nat) → List Value
  | t :: r, g :: gs => tyC1 t g ++ tyC r gs
  | _, _ => []
theorem tyC_snoc : ∀ {ts : List CTy} {gs : List (Nat × Nat)} {t : CTy} {g : Nat × Nat}, gs.length = ts.length → tyC (ts ++ [t]) (gs ++ [g]) = tyC ts gs ++ tyC1 t g
  | [], [], t, g, _ => by simp [tyC]
  | [], _ :: _, _, _, h => by simp at h
  | _ :: _, [], _, _, h => by simp at h
  | a :: ts, b :: gs, t, g, h => by simp [tyC, tyC_snoc (ts := ts) (gs := gs) (by simpa using h)]
theorem tyC_at : ∀ (ts : List CTy) (gs : List (Nat × Nat)) (i : Nat) (h1 : i < ts.length) (h2 : i < gs.length) (j : Nat), j < 3 → (tyC ts gs)[i * 3 + j]? = (tyC1 ts[i] gs[i])[j]?
  | [], _, i, h1, _, _, _ => by simp at h1
  | _ :: _, [], i, _, h2, _, _ => by simp at h2
  | a :: ts, b :: gs, 0, _, _, j, hj => by
    rw [tyC, List.getElem?_append_left (by simp [tyC1]; omega)]
    simp
  | a :: ts, b :: gs, i + 1, h1, h2, j, hj => by
    rw [tyC, List.getElem?_append_right (by simp [tyC1]; omega)]
    have := tyC_at ts gs i (by simpa using h1) (by simpa using h2) j hj
    simp only [List.getElem_cons_succ]
    rw [← this]
    congr 1
    simp [tyC1]
    omega
/-- types under way: O holds the unit -/
structure TsM (w W : World) (O B : Nat) (vp va : Value) (ts : List CTy) (G : List (Nat × Nat)) : Prop where
  bel : Below w.heap.size w W
  out : W.heap[O]? = some (.cells #[vp, va] 25 (0, 0))
  lo : w.heap.size ≤ O ∧ O < B ∧ B ≤ W.heap.size
  len : G.length = ts.length
  all : W.ownsRow B 49 3 va ts.length (tyC ts G)
  kid : ∀ i (h1 : i < ts.length) (h2 : i < G.length), KidAt W B G[i].1 G[i].2 ts[i].kids
structure TyR (w W W2 W3 W4 W5 : World) (E O B : Nat) (vp va va' : Value) (s : List CTy) (G : List (Nat × Nat)) (t : CTy) (ka : Option Addr) (kc : Nat) (v2 : Value) (g c : Nat) : Prop where
  c1 : (W.alloc (.cells #[.int .i64 t.kind, .slice ka t.kids.length kc, .bool t.res] 49)).cell? ⟨E, 1, none⟩ = some (.slice ka t.kids.length kc)
  l1 : E < (W.alloc (.cells #[.int .i64 t.kind, .slice ka t.kids.length kc, .bool t.res] 49)).heap.size
  r2 : ∀ ty, (Builtin.append_ #[32, 32] ty #[.slice none 0 0, .slice ka t.kids.length kc]).run Tryd.prog (W.alloc (.cells #[.int .i64 t.kind, .slice ka t.kids.length kc, .bool t.res] 49)) = .ok v2 W2
  r3 : ∀ ty, (Builtin.append_ #[32, 32] ty #[v2, .slice (some ⟨W2.heap.size, 0, none⟩) 1 1]).run Tryd.prog (W2.alloc (.cells #[.int .i64 (-7)] 3)) = .ok (.slice (some ⟨g, 0, none⟩) (t.kids.length + 1) c) W3
  cp : t.kids.length + 1 ≤ c
  c3 : W3.cell? ⟨E, 1, none⟩ = some (.slice ka t.kids.length kc)
  f3 : W3.frozen? ⟨E, 1, none⟩ = false
  l3 : E < W3.heap.size
  w4 : W3.setCell ⟨E, 1, none⟩ (.slice (some ⟨g, 0, none⟩) t.kids.length c) = W4
  e4 : W4.heap[E]? = some (.cells #[.int .i64 t.kind, .slice (some ⟨g, 0, none⟩) t.kids.length c, .bool t.res] 49 (0, 0))
  o4 : W4.heap[O]? = some (.cells #[vp, va] 25 (0, 0))
  r5 : ∀ ty, (Builtin.append_ #[23, 23] ty #[va, .slice (some ⟨W4.heap.size, 0, none⟩) 1 1]).run Tryd.prog (W4.alloc (.cells #[.int .i64 t.kind, .slice (some ⟨g, 0, none⟩) t.kids.length c, .bool t.res] 49)) = .ok va' W5
  o5 : W5.heap[O]? = some (.cells #[vp, va] 25 (0, 0))
  st : TsM w (W5.setCell ⟨O, 1, none⟩ va') O B vp va' (s ++ [t]) (G ++ [(g, c)])
set_option maxHeartbeats 2000000 in
theorem TsM.push {w W : World} {O B : Nat} {vp va : Value} {s : List CTy} {G : List (Nat × Nat)} (h : TsM w W O B vp va s G) (E : Nat) (hE : W.heap.size = E) (t : CTy) (ka : Option Addr) (kc : Nat) (hk : IntsV W w.heap.size ka kc t.kids) (hl : t.kids.length ≤ 2147483647) (hs : s.length ≤ 2147483647) :
    ∃ W2 W3 W4 W5 gv cv v2 g c, TyR w W W2 W3 W4 W5 E O B vp va (.slice (some ⟨gv, 0, none⟩) (s.length + 1) cv) s G t ka kc v2 g c := by
  obtain ⟨lo1, lo2, lo3⟩ := h.lo
  obtain ⟨j0, hj0, jz0, jz1, jz2⟩ := info_parts infoTy
  obtain ⟨W1, hW1⟩ : ∃ W1, W.alloc (.cells #[.int .i64 t.kind, .slice ka t.kids.length kc, .bool t.res] 49) = W1 := ⟨_, rfl⟩
  have hs1 : W1.heap.size = E + 1 := by rw [← hW1, ← hE]; simp
  have b1 : Below E W W1 := by rw [← hW1, ← hE]; exact below1 _ _
  have he1 : W1.heap[E]? = some (.cells #[.int .i64 t.kind, .slice ka t.kids.length kc, .bool t.res] 49 (0, 0)) := by rw [← hW1, ← hE]; exact heap_newH _ _ _ rfl
  obtain ⟨v2, W2, g, c, W3, r2, r3, hcp, hK, b3⟩ := mark_list W1 w.heap.size (by omega) ka kc t.kids (hk.below (b1.mono (by omega))) hl
  rw [hs1] at hK b3
  have hs3 := b3.size
  have he3 := (b3.block E (by omega)).trans he1
  obtain ⟨W4, hW4⟩ : ∃ W4, W3.setCell ⟨E, 1, none⟩ (.slice (some ⟨g, 0, none⟩) t.kids.length c) = W4 := ⟨_, rfl⟩
  have hk4 : ∀ y, y ≠ E → W4.heap[y]? = W3.heap[y]? := fun y hy => by rw [← hW4, Below.heap_setCell _ ⟨E, 1, none⟩ _ y hy]
  have hs4 : W4.heap.size = W3.heap.size := by rw [← hW4]; simp
  have he4 : W4.heap[E]? = some (.cells #[.int .i64 t.kind, .slice (some ⟨g, 0, none⟩) t.kids.length c, .bool t.res] 49 (0, 0)) := by
    rw [← hW4]
    have := Lib.heap_setCell_same (i := 1) he3 (.slice (some ⟨g, 0, none⟩) t.kids.length c)
    simpa using this
  have b34 : Below E W3 W4 := by
    rw [← hW4]
    exact (Below.refl E W3).setCell (p := ⟨E, 1, none⟩) (Nat.le_refl _) _
  have b14 : Below E W W4 := b1.trans ((b3.mono (by omega)).trans b34)
  have ho4 : W4.heap[O]? = some (.cells #[vp, va] 25 (0, 0)) := (b14.block O (by omega)).trans h.out
  have hK4 : KidAt W4 B g c t.kids := hK.later (hk4 g (by have := hK.base; omega)) (by omega)
  have hall : W4.ownsRow B 49 3 va s.length (tyC s G) := owns_same h.all fun y _ hy => b14.block y (by omega)
  have hkid : ∀ i (h1 : i < s.length) (h2 : i < G.length), KidAt W4 B G[i].1 G[i].2 s[i].kids := fun i h1 h2 => (h.kid i h1 h2).later (b14.block _ (by have := (h.kid i h1 h2).lt; omega)) (Nat.le_refl _)
  obtain ⟨gv, cv, W5, r5, n5, q5, _, _⟩ := app1 Tryd.underlying23 hj0 jz0 jz1 jz2 rfl (by decide) W4 B va s.length _ hall #[.int .i64 t.kind, .slice (some ⟨g, 0, none⟩) t.kids.length c, .bool t.res] rfl (by simp [Value.oneCell']) (by unfold maxLen; omega) (by omega) (by omega)
  have kk := owns_kind hall
  have b5 : Below B W4 W5 := (Below.refl _ _).grown q5 (by omega) fun k hk => (owns_block hall hk).1
  have ho5 := (b5.block O (by omega)).trans ho4
  have hk6 : ∀ y, y ≠ O → (W5.setCell ⟨O, 1, none⟩ (.slice (some ⟨gv, 0, none⟩) (s.length + 1) cv)).heap[y]? = W5.heap[y]? := fun y hy => Below.heap_setCell _ ⟨O, 1, none⟩ _ y hy
  have hg5 : ∀ (y : Nat) (cs : Array Value), W4.heap[y]? = some (.cells cs 3 (0, 0)) → W5.heap[y]? = W4.heap[y]? := fun y cs hy => by
    rw [hy]
    exact grown_at q5 hy fun e => by
      obtain ⟨c', fz, hc'⟩ := kk y e
      rw [hy] at hc'
      simp at hc'
  have hs5 := b5.size
  refine ⟨W2, W3, W4, W5, gv, cv, v2, g, c, ⟨by rw [hW1]; exact cell_blk he1 rfl, by rw [hW1]; omega, by rw [hW1]; exact r2, r3, hcp, cell_blk he3 rfl, frz_blk he3, by omega, hW4, he4, ho4, r5, ho5, ⟨?_, ?_, ⟨lo1, lo2, by simp; omega⟩, by simp [h.len], ?_, fun i h1 h2 => ?_⟩⟩⟩
  · refine h.bel.trans ((b14.mono (by have := h.bel.size; omega)).trans ((b5.mono (by omega)).trans ?_))
    exact (Below.refl _ W5).setCell (p := ⟨O, 1, none⟩) lo1 _
  · have := Lib.heap_setCell_same (i := 1) ho5 (.slice (some ⟨gv, 0, none⟩) (s.length + 1) cv)
    simpa using this
  · rw [tyC_snoc h.len, List.length_append]
    exact owns_same n5 fun y hy _ => hk6 y (by omega)
  · have hgl := h.len
    have hkey : ∀ (gg cc : Nat) (l : List Int), KidAt W4 B gg cc l → KidAt (W5.setCell ⟨O, 1, none⟩ (.slice (some ⟨gv, 0, none⟩) (s.length + 1) cv)) B gg cc l := fun gg cc l hq => by
      obtain ⟨cs, hb⟩ := hq.blk
      exact hq.later ((hk6 gg (by have := hq.base; omega)).trans (hg5 gg cs hb)) (Nat.le_refl _)
    by_cases hi : i < s.length
    · have hl2 : i < G.length := by omega
      simp only [List.getElem_append_left hi, List.getElem_append_left hl2]
      exact hkey _ _ _ (hkid i hi hl2)
    · have hie : i = s.length := by simp at h1; omega
      subst hie
      simp only [List.getElem_append_right (Nat.le_refl _), List.getElem_append_right (show G.length ≤ s.length by omega), hgl, Nat.sub_self, List.getElem_cons_zero]
      exact hkey _ _ _ hK4
end Go.Proofs.YtadmpgegolmkgaaDoor
namespace Go.Proofs.YtadmpgegolmkgaaDoor
open Go.RowKit
set_option linter.unusedVariables false
set_option linter.unusedSimpArgs false

/-! ### a code that is lent -/
def inC1 (x : CIn) (g : Nat × Nat) : List Value := [.int .i64 x.op, .int .i64 x.a, .int .i64 x.b, .slice (some ⟨g.1, 0, none⟩) x.list.length g.2]
def inC : List CIn → List (Nat × Nat) → List Value
  | t :: r, g :: gs => inC1 t g ++ inC r gs
  | _, _ => []
theorem inC_snoc : ∀ {ts : List CIn} {gs : List (Nat × Nat)} {t : CIn} {g : Nat × Nat}, gs.length = ts.length → inC (ts ++ [t]) (gs ++ [g]) = inC ts gs ++ inC1 t g
  | [], [], t, g, _ => by simp [inC]
  | [], _ :: _, _, _, h => by simp at h
  | _ :: _, [], _, _, h => by simp at h
  | a :: ts, b :: gs, t, g, h => by simp [inC, inC_snoc (ts := ts) (gs := gs) (by simpa using h)]
theorem inC_at : ∀ (ts : List CIn) (gs : List (Nat × Nat)) (i : Nat) (h1 : i < ts.length) (h2 : i < gs.length) (j : Nat), j < 4 → (inC ts gs)[i * 4 + j]? = (inC1 ts[i] gs[i])[j]?
  | [], _, i, h1, _, _, _ => by simp at h1
  | _ :: _, [], i, _, h2, _, _ => by simp at h2
  | a :: ts, b :: gs, 0, _, _, j, hj => by
    rw [inC, List.getElem?_append_left (by simp [inC1]; omega)]
    simp
  | a :: ts, b :: gs, i + 1, h1, h2, j, hj => by
    rw [inC, List.getElem?_append_right (by simp [inC1]; omega)]
    have := inC_at ts gs i (by simpa using h1) (by simpa using h2) j hj
    simp only [List.getElem_cons_succ]
    rw [← this]
    congr 1
    simp [inC1]
    omega
/-- a code under way -/
structure CdM (w W : World) (vc : Value) (s : List CIn) (G : List (Nat × Nat)) : Prop where
  bel : Below w.heap.size w W
  len : G.length = s.length
  all : W.ownsRow w.heap.size 43 4 vc s.length (inC s G)
  kid : ∀ i (h1 : i < s.length) (h2 : i < G.length), KidAt W w.heap.size G[i].1 G[i].2 s[i].list
structure CdR (w W W2 W3 W4 W5 : World) (E : Nat) (vc vc' : Value) (s : List CIn) (G : List (Nat × Nat)) (x : CIn) (ka : Option Addr) (kc : Nat) (v2 : Value) (g c : Nat) : Prop where
  c1 : (W.alloc (.cells #[.int .i64 x.op, .int .i64 x.a, .int .i64 x.b, .slice ka x.list.length kc] 43)).cell? ⟨E, 3, none⟩ = some (.slice ka x.list.length kc)
  l1 : E < (W.alloc (.cells #[.int .i64 x.op, .int .i64 x.a, .int .i64 x.b, .slice ka x.list.length kc] 43)).heap.size
  r2 : ∀ ty, (Builtin.append_ #[32, 32] ty #[.slice none 0 0, .slice ka x.list.length kc]).run Tryd.prog (W.alloc (.cells #[.int .i64 x.op, .int .i64 x.a, .int .i64 x.b, .slice ka x.list.length kc] 43)) = .ok v2 W2
  r3 : ∀ ty, (Builtin.append_ #[32, 32] ty #[v2, .slice (some ⟨W2.heap.size, 0, none⟩) 1 1]).run Tryd.prog (W2.alloc (.cells #[.int .i64 (-7)] 3)) = .ok (.slice (some ⟨g, 0, none⟩) (x.list.length + 1) c) W3
  cp : x.list.length + 1 ≤ c
  c3 : W3.cell? ⟨E, 3, none⟩ = some (.slice ka x.list.length kc)
  f3 : W3.frozen? ⟨E, 3, none⟩ = false
  l3 : E < W3.heap.size
  w4 : W3.setCell ⟨E, 3, none⟩ (.slice (some ⟨g, 0, none⟩) x.list.length c) = W4
  e4 : W4.heap[E]? = some (.cells #[.int .i64 x.op, .int .i64 x.a, .int .i64 x.b, .slice (some ⟨g, 0, none⟩) x.list.length c] 43 (0, 0))
  r5 : ∀ ty, (Builtin.append_ #[38, 38] ty #[vc, .slice (some ⟨W4.heap.size, 0, none⟩) 1 1]).run Tryd.prog (W4.alloc (.cells #[.int .i64 x.op, .int .i64 x.a, .int .i64 x.b, .slice (some ⟨g, 0, none⟩) x.list.length c] 43)) = .ok vc' W5
  st : CdM w W5 vc' (s ++ [x]) (G ++ [(g, c)])
set_option maxHeartbeats 2000000 in
theorem CdM.push {w W : World} {vc : Value} {s : List CIn} {G : List (Nat × Nat)} (h : CdM w W vc s G) (E : Nat) (hE : W.heap.size = E) (x : CIn) (ka : Option Addr) (kc : Nat) (hk : IntsV W w.heap.size ka kc x.list) (hl : x.list.length ≤ 2147483647) (hs : s.length ≤ 2147483647) :
    ∃ W2 W3 W4 W5 gv cv v2 g c, CdR w W W2 W3 W4 W5 E vc (.slice (some ⟨gv, 0, none⟩) (s.length + 1) cv) s G x ka kc v2 g c := by
  have lo := h.bel.size
  obtain ⟨j0, hj0, jz0, jz1, jz2⟩ := info_parts infoIn
  obtain ⟨W1, hW1⟩ : ∃ W1, W.alloc (.cells #[.int .i64 x.op, .int .i64 x.a, .int .i64 x.b, .slice ka x.list.length kc] 43) = W1 := ⟨_, rfl⟩
  have hs1 : W1.heap.size = E + 1 := by rw [← hW1, ← hE]; simp
  have b1 : Below E W W1 := by rw [← hW1, ← hE]; exact below1 _ _
  have he1 : W1.heap[E]? = some (.cells #[.int .i64 x.op, .int .i64 x.a, .int .i64 x.b, .slice ka x.list.length kc] 43 (0, 0)) := by rw [← hW1, ← hE]; exact heap_newH _ _ _ rfl
  obtain ⟨v2, W2, g, c, W3, r2, r3, hcp, hK, b3⟩ := mark_list W1 w.heap.size (by omega) ka kc x.list (hk.below (b1.mono (by omega))) hl
  rw [hs1] at hK b3
  have hs3 := b3.size
  have he3 := (b3.block E (by omega)).trans he1
  obtain ⟨W4, hW4⟩ : ∃ W4, W3.setCell ⟨E, 3, none⟩ (.slice (some ⟨g, 0, none⟩) x.list.length c) = W4 := ⟨_, rfl⟩
  have hk4 : ∀ y, y ≠ E → W4.heap[y]? = W3.heap[y]? := fun y hy => by rw [← hW4, Below.heap_setCell _ ⟨E, 3, none⟩ _ y hy]
  have hs4 : W4.heap.size = W3.heap.size := by rw [← hW4]; simp
  have he4 : W4.heap[E]? = some (.cells #[.int .i64 x.op, .int .i64 x.a, .int .i64 x.b, .slice (some ⟨g, 0, none⟩) x.list.length c] 43 (0, 0)) := by
    rw [← hW4]
    have := Lib.heap_setCell_same (i := 3) he3 (.slice (some ⟨g, 0, none⟩) x.list.length c)
    simpa using this
  have b34 : Below E W3 W4 := by
    rw [← hW4]
    exact (Below.refl E W3).setCell (p := ⟨E, 3, none⟩) (Nat.le_refl _) _
  have b14 : Below E W W4 := b1.trans ((b3.mono (by omega)).trans b34)
  have hK4 : KidAt W4 w.heap.size g c x.list := hK.later (hk4 g (by have := hK.base; omega)) (by omega)
  have hall : W4.ownsRow w.heap.size 43 4 vc s.length (inC s G) := owns_same h.all fun y _ hy => b14.block y (by omega)
  have hkid : ∀ i (h1 : i < s.length) (h2 : i < G.length), KidAt W4 w.heap.size G[i].1 G[i].2 s[i].list := fun i h1 h2 => (h.kid i h1 h2).later (b14.block _ (by have := (h.kid i h1 h2).lt; omega)) (Nat.le_refl _)
  obtain ⟨gv, cv, W5, r5, n5, q5, _, _⟩ := app1 Tryd.underlying38 hj0 jz0 jz1 jz2 rfl (by decide) W4 w.heap.size vc s.length _ hall #[.int .i64 x.op, .int .i64 x.a, .int .i64 x.b, .slice (some ⟨g, 0, none⟩) x.list.length c] rfl (by simp [Value.oneCell']) (by unfold maxLen; omega) (by omega) (by omega)
  have kk := owns_kind hall
  have b5 : Below w.heap.size W4 W5 := (Below.refl _ _).grown q5 (by omega) fun k hk => (owns_block hall hk).1
  have hg5 : ∀ (y : Nat) (cs : Array Value), W4.heap[y]? = some (.cells cs 3 (0, 0)) → W5.heap[y]? = W4.heap[y]? := fun y cs hy => by
    rw [hy]
    exact grown_at q5 hy fun e => by
      obtain ⟨c', fz, hc'⟩ := kk y e
      rw [hy] at hc'
      simp at hc'
  refine ⟨W2, W3, W4, W5, gv, cv, v2, g, c, ⟨by rw [hW1]; exact cell_blk he1 rfl, by rw [hW1]; omega, by rw [hW1]; exact r2, r3, hcp, cell_blk he3 rfl, frz_blk he3, by omega, hW4, he4, r5, ⟨?_, by simp [h.len], ?_, fun i h1 h2 => ?_⟩⟩⟩
  · exact h.bel.trans ((b14.mono (by omega)).trans b5)
  · rw [inC_snoc h.len, List.length_append]
    exact n5
  · have hgl := h.len
    have hkey : ∀ (gg cc : Nat) (l : List Int), KidAt W4 w.heap.size gg cc l → KidAt W5 w.heap.size gg cc l := fun gg cc l hq => by
      obtain ⟨cs, hb⟩ := hq.blk
      exact hq.later (hg5 gg cs hb) (Nat.le_refl _)
    by_cases hi : i < s.length
    · have hl2 : i < G.length := by omega
      simp only [List.getElem_append_left hi, List.getElem_append_left hl2]
      exact hkey _ _ _ (hkid i hi hl2)
    · have hie : i = s.length := by simp at h1; omega
      subst hie
      simp only [List.getElem_append_right (Nat.le_refl _), List.getElem_append_right (show G.length ≤ s.length by omega), hgl, Nat.sub_self, List.getElem_cons_zero]
      exact hkey _ _ _ hK4
/-- a code, lent -/
structure CodeAt (W : World) (B g c : Nat) (s : List CIn) (G : List (Nat × Nat)) : Prop where
  base : B ≤ g
  blk : ∃ cs, W.heap[g]? = some (.cells cs 43 (0, 0))
  cap : s.length + 1 ≤ c
  max : c ≤ maxLen
  len : G.length = s.length
  at_ : ∀ i (h1 : i < s.length) (h2 : i < G.length) j, j < 4 → W.cell? ⟨g, i * 4 + j, none⟩ = (inC1 s[i] G[i])[j]?
  mark : W.cell? ⟨g, s.length * 4, none⟩ = some (.int .i64 (-7))
  kid : ∀ i (h1 : i < s.length) (h2 : i < G.length), KidAt W B G[i].1 G[i].2 s[i].list
theorem CodeAt.lt {W : World} {B g c : Nat} {s : List CIn} {G : List (Nat × Nat)} (h : CodeAt W B g c s G) : g < W.heap.size := by
  obtain ⟨cs, h1⟩ := h.blk
  exact heap_lt h1
theorem CodeAt.later {W W' : World} {B B' g c : Nat} {s : List CIn} {G : List (Nat × Nat)} (h : CodeAt W B g c s G) (hb : ∀ y cs (t : TypeId), t = 3 ∨ t = 43 → B ≤ y → W.heap[y]? = some (.cells cs t (0, 0)) → W'.heap[y]? = W.heap[y]?) (hB : B' ≤ B) : CodeAt W' B' g c s G := by
  obtain ⟨cs, h1⟩ := h.blk
  have e := hb g cs _ (.inr rfl) h.base h1
  have hc : ∀ i, W'.cell? ⟨g, i, none⟩ = W.cell? ⟨g, i, none⟩ := fun i => World.cell?_of_block (a := ⟨g, i, none⟩) e
  refine ⟨Nat.le_trans hB h.base, ⟨cs, e.trans h1⟩, h.cap, h.max, h.len, fun i a b j hj => by rw [hc]; exact h.at_ i a b j hj, by rw [hc]; exact h.mark, fun i a b => ?_⟩
  obtain ⟨cs2, k1⟩ := (h.kid i a b).blk
  exact (h.kid i a b).later (hb _ cs2 _ (.inl rfl) (h.kid i a b).base k1) hB
set_option maxHeartbeats 2000000 in
/-- the mark behind a code -/
theorem CdM.last {w W : World} {vc : Value} {s : List CIn} {G : List (Nat × Nat)} (h : CdM w W vc s G) (hs : s.length ≤ 2147483647) :
    ∃ gv cv W5, (∀ ty, (Builtin.append_ #[38, 38] ty #[vc, .slice (some ⟨W.heap.size, 0, none⟩) 1 1]).run Tryd.prog (W.alloc (.cells #[.int .i64 (-7), .int .i64 0, .int .i64 0, .slice none 0 0] 43)) = .ok (.slice (some ⟨gv, 0, none⟩) (s.length + 1) cv) W5) ∧ s.length + 1 ≤ cv ∧ Below w.heap.size w W5 ∧ CodeAt W5 w.heap.size gv cv s G := by
  have lo := h.bel.size
  obtain ⟨j0, hj0, jz0, jz1, jz2⟩ := info_parts infoIn
  obtain ⟨gv, cv, W5, r5, n5, q5, hcp, _⟩ := app1 Tryd.underlying38 hj0 jz0 jz1 jz2 rfl (by decide) W w.heap.size vc s.length _ h.all #[.int .i64 (-7), .int .i64 0, .int .i64 0, .slice none 0 0] rfl (by simp [Value.oneCell']) (by unfold maxLen; omega) (by omega) (by omega)
  have kk := owns_kind h.all
  have b5 : Below w.heap.size W W5 := (Below.refl _ _).grown q5 (by omega) fun k hk => (owns_block h.all hk).1
  have hln := h.all.1
  refine ⟨gv, cv, W5, r5, hcp, h.bel.trans b5, ⟨(owns_block n5 (g := gv) rfl).1, own_blk n5, hcp, (own_caps n5).2, h.len, fun i h1 h2 j hj => ?_, ?_, fun i h1 h2 => ?_⟩⟩
  · rw [n5.cellAt (i * 4 + j) (by omega), List.getElem?_append_left (by omega)]
    exact inC_at s G i h1 h2 j hj
  · rw [n5.cellAt (s.length * 4) (by omega), List.getElem?_append_right (by omega), hln, Nat.sub_self]
    rfl
  · obtain ⟨cs, hb⟩ := (h.kid i h1 h2).blk
    refine (h.kid i h1 h2).later ?_ (Nat.le_refl _)
    rw [hb]
    exact grown_at q5 hb fun e => by
      obtain ⟨c', fz, hc'⟩ := kk _ e
      rw [hb] at hc'
      simp at hc'
end Go.Proofs.YtadmpgegolmkgaaDoor
namespace Go.Proofs.YtadmpgegolmkgaaDoor
open Go.RowKit
set_option linter.unusedVariables false
set_option linter.unusedSimpArgs false

/-! ### progs that are lent -/
abbrev PG := (Nat × Nat) × List (Nat × Nat)
def pgL1 (p : CPg) (g : PG) : List Value := [.int .i64 p.params, .int .i64 p.slots, .int .i64 p.caps, .bool p.res, .slice (some ⟨g.1.1, 0, none⟩) p.code.length g.1.2]
def pgL : List CPg → List PG → List Value
  | t :: r, g :: gs => pgL1 t g ++ pgL r gs
  | _, _ => []
theorem pgL_snoc : ∀ {ts : List CPg} {gs : List PG} {t : CPg} {g : PG}, gs.length = ts.length → pgL (ts ++ [t]) (gs ++ [g]) = pgL ts gs ++ pgL1 t g
  | [], [], t, g, _ => by simp [pgL]
  | [], _ :: _, _, _, h => by simp at h
  | _ :: _, [], _, _, h => by simp at h
  | a :: ts, b :: gs, t, g, h => by simp [pgL, pgL_snoc (ts := ts) (gs := gs) (by simpa using h)]
theorem pgL_at : ∀ (ts : List CPg) (gs : List PG) (i : Nat) (h1 : i < ts.length) (h2 : i < gs.length) (j : Nat), j < 5 → (pgL ts gs)[i * 5 + j]? = (pgL1 ts[i] gs[i])[j]?
  | [], _, i, h1, _, _, _ => by simp at h1
  | _ :: _, [], i, _, h2, _, _ => by simp at h2
  | a :: ts, b :: gs, 0, _, _, j, hj => by
    rw [pgL, List.getElem?_append_left (by simp [pgL1]; omega)]
    simp
  | a :: ts, b :: gs, i + 1, h1, h2, j, hj => by
    rw [pgL, List.getElem?_append_right (by simp [pgL1]; omega)]
    have := pgL_at ts gs i (by simpa using h1) (by simpa using h2) j hj
    simp only [List.getElem_cons_succ]
    rw [← this]
    congr 1
    simp [pgL1]
    omega
/-- progs under way, the types done -/
structure PgM (w W : World) (O B : Nat) (vp va : Value) (ts : List CTy) (G : List (Nat × Nat)) (ps : List CPg) (C : List PG) : Prop where
  bel : Below w.heap.size w W
  out : W.heap[O]? = some (.cells #[vp, va] 25 (0, 0))
  lo : w.heap.size ≤ O ∧ O < B ∧ B ≤ W.heap.size
  tlen : G.length = ts.length
  tall : W.ownsRow B 49 3 va ts.length (tyC ts G)
  tkid : ∀ i (h1 : i < ts.length) (h2 : i < G.length), KidAt W B G[i].1 G[i].2 ts[i].kids
  len : C.length = ps.length
  all : W.ownsRow B 40 5 vp ps.length (pgL ps C)
  cod : ∀ i (h1 : i < ps.length) (h2 : i < C.length), CodeAt W B C[i].1.1 C[i].1.2 ps[i].code C[i].2
  ord : ∀ i j (hi : i < C.length) (hj : j < C.length), i < j → C[i].1.1 < C[j].1.1
theorem TsM.progs {w W : World} {O B : Nat} {va : Value} {ts : List CTy} {G : List (Nat × Nat)} (h : TsM w W O B (.slice none 0 0) va ts G) : PgM w W O B (.slice none 0 0) va ts G [] [] :=
  ⟨h.bel, h.out, h.lo, h.len, h.all, h.kid, rfl, ⟨by simp [pgL], .inl ⟨rfl, rfl⟩⟩, fun i h1 => by simp at h1, fun i j hi => by simp at hi⟩
structure PgR (w W W5 W6 W7 : World) (E O B : Nat) (vp va vp' : Value) (ts : List CTy) (G : List (Nat × Nat)) (ps : List CPg) (C : List PG) (p : CPg) (ca : Option Addr) (cc gv cv : Nat) (K : List (Nat × Nat)) : Prop where
  c5 : W5.cell? ⟨E, 4, none⟩ = some (.slice ca p.code.length cc)
  f5 : W5.frozen? ⟨E, 4, none⟩ = false
  l5 : E < W5.heap.size
  w6 : W5.setCell ⟨E, 4, none⟩ (.slice (some ⟨gv, 0, none⟩) p.code.length cv) = W6
  e6 : W6.heap[E]? = some (.cells #[.int .i64 p.params, .int .i64 p.slots, .int .i64 p.caps, .bool p.res, .slice (some ⟨gv, 0, none⟩) p.code.length cv] 40 (0, 0))
  o6 : W6.heap[O]? = some (.cells #[vp, va] 25 (0, 0))
  r7 : ∀ ty, (Builtin.append_ #[22, 22] ty #[vp, .slice (some ⟨W6.heap.size, 0, none⟩) 1 1]).run Tryd.prog (W6.alloc (.cells #[.int .i64 p.params, .int .i64 p.slots, .int .i64 p.caps, .bool p.res, .slice (some ⟨gv, 0, none⟩) p.code.length cv] 40)) = .ok vp' W7
  o7 : W7.heap[O]? = some (.cells #[vp, va] 25 (0, 0))
  st : PgM w (W7.setCell ⟨O, 0, none⟩ vp') O B vp' va ts G (ps ++ [p]) (C ++ [((gv, cv), K)])
set_option maxHeartbeats 4000000 in
theorem PgM.push {w W W1 W5 : World} {O B : Nat} {vp va : Value} {ts : List CTy} {G : List (Nat × Nat)} {ps : List CPg} {C : List PG} (h : PgM w W O B vp va ts G ps C) (E : Nat) (hE : W.heap.size = E) (p : CPg) (ca : Option Addr) (cc gv cv : Nat) (K : List (Nat × Nat))
    (hW1 : W.alloc (.cells #[.int .i64 p.params, .int .i64 p.slots, .int .i64 p.caps, .bool p.res, .slice ca p.code.length cc] 40) = W1) (b5 : Below W1.heap.size W1 W5) (hC : CodeAt W5 W1.heap.size gv cv p.code K) (hs : ps.length ≤ 2147483647) :
    ∃ W6 W7 gp cp, PgR w W W5 W6 W7 E O B vp va (.slice (some ⟨gp, 0, none⟩) (ps.length + 1) cp) ts G ps C p ca cc gv cv K := by
  obtain ⟨lo1, lo2, lo3⟩ := h.lo
  obtain ⟨j0, hj0, jz0, jz1, jz2⟩ := info_parts infoPg
  have hs1 : W1.heap.size = E + 1 := by rw [← hW1, ← hE]; simp
  have b1 : Below E W W1 := by rw [← hW1, ← hE]; exact below1 _ _
  have he1 : W1.heap[E]? = some (.cells #[.int .i64 p.params, .int .i64 p.slots, .int .i64 p.caps, .bool p.res, .slice ca p.code.length cc] 40 (0, 0)) := by rw [← hW1, ← hE]; exact heap_newH _ _ _ rfl
  rw [hs1] at b5 hC
  have hs5 := b5.size
  have he5 := (b5.block E (by omega)).trans he1
  obtain ⟨W6, hW6⟩ : ∃ W6, W5.setCell ⟨E, 4, none⟩ (.slice (some ⟨gv, 0, none⟩) p.code.length cv) = W6 := ⟨_, rfl⟩
  have hk6 : ∀ y, y ≠ E → W6.heap[y]? = W5.heap[y]? := fun y hy => by rw [← hW6, Below.heap_setCell _ ⟨E, 4, none⟩ _ y hy]
  have hs6 : W6.heap.size = W5.heap.size := by rw [← hW6]; simp
  have he6 : W6.heap[E]? = some (.cells #[.int .i64 p.params, .int .i64 p.slots, .int .i64 p.caps, .bool p.res, .slice (some ⟨gv, 0, none⟩) p.code.length cv] 40 (0, 0)) := by
    rw [← hW6]
    have := Lib.heap_setCell_same (i := 4) he5 (.slice (some ⟨gv, 0, none⟩) p.code.length cv)
    simpa using this
  have b56 : Below E W5 W6 := by
    rw [← hW6]
    exact (Below.refl E W5).setCell (p := ⟨E, 4, none⟩) (Nat.le_refl _) _
  have b16 : Below E W W6 := b1.trans ((b5.mono (by omega)).trans b56)
  have ho6 : W6.heap[O]? = some (.cells #[vp, va] 25 (0, 0)) := (b16.block O (by omega)).trans h.out
  have hC6 : CodeAt W6 B gv cv p.code K := hC.later (fun y cs t _ hy _ => hk6 y (by omega)) (by omega)
  have hall : W6.ownsRow B 40 5 vp ps.length (pgL ps C) := owns_same h.all fun y _ hy => b16.block y (by omega)
  have htall : W6.ownsRow B 49 3 va ts.length (tyC ts G) := owns_same h.tall fun y _ hy => b16.block y (by omega)
  have htkid : ∀ i (h1 : i < ts.length) (h2 : i < G.length), KidAt W6 B G[i].1 G[i].2 ts[i].kids := fun i h1 h2 => (h.tkid i h1 h2).later (b16.block _ (by have := (h.tkid i h1 h2).lt; omega)) (Nat.le_refl _)
  have hcod : ∀ i (h1 : i < ps.length) (h2 : i < C.length), CodeAt W6 B C[i].1.1 C[i].1.2 ps[i].code C[i].2 := fun i h1 h2 => (h.cod i h1 h2).later (fun y cs t _ hy hb => b16.block y (by have := heap_lt hb; omega)) (Nat.le_refl _)
  obtain ⟨gp, cp, W7, r7, n7, q7, _, _⟩ := app1 Tryd.underlying22 hj0 jz0 jz1 jz2 rfl (by decide) W6 B vp ps.length _ hall #[.int .i64 p.params, .int .i64 p.slots, .int .i64 p.caps, .bool p.res, .slice (some ⟨gv, 0, none⟩) p.code.length cv] rfl (by simp [Value.oneCell']) (by unfold maxLen; omega) (by omega) (by omega)
  have kk := owns_kind hall
  have b7 : Below B W6 W7 := (Below.refl _ _).grown q7 (by omega) fun k hk => (owns_block hall hk).1
  have ho7 := (b7.block O (by omega)).trans ho6
  have hs7 := b7.size
  have hk8 : ∀ y, y ≠ O → (W7.setCell ⟨O, 0, none⟩ (.slice (some ⟨gp, 0, none⟩) (ps.length + 1) cp)).heap[y]? = W7.heap[y]? := fun y hy => Below.heap_setCell _ ⟨O, 0, none⟩ _ y hy
  have hg7 : ∀ (y : Nat) (cs : Array Value) (t : TypeId), t = 3 ∨ t = 43 → W6.heap[y]? = some (.cells cs t (0, 0)) → W7.heap[y]? = W6.heap[y]? := fun y cs t ht hy => by
    rw [hy]
    exact grown_at q7 hy fun e => by
      obtain ⟨c', fz, hc'⟩ := kk y e
      rw [hy] at hc'
      simp at hc'
      rcases ht with rfl | rfl
      · exact absurd hc'.2.1 (by decide)
      · exact absurd hc'.2.1 (by decide)
  have h78 : ∀ (y : Nat) (cs : Array Value) (t : TypeId), t = 3 ∨ t = 43 → B ≤ y → W6.heap[y]? = some (.cells cs t (0, 0)) → (W7.setCell ⟨O, 0, none⟩ (.slice (some ⟨gp, 0, none⟩) (ps.length + 1) cp)).heap[y]? = W6.heap[y]? := fun y cs t ht hB hy => (hk8 y (by omega)).trans (hg7 y cs t ht hy)
  have hkey : ∀ (gg cc : Nat) (l : List Int), KidAt W6 B gg cc l → KidAt (W7.setCell ⟨O, 0, none⟩ (.slice (some ⟨gp, 0, none⟩) (ps.length + 1) cp)) B gg cc l := fun gg cc l hq => by
    obtain ⟨cs, hb⟩ := hq.blk
    exact hq.later (h78 gg cs _ (.inl rfl) hq.base hb) (Nat.le_refl _)
  have hcey : ∀ (gg cc : Nat) (l : List CIn) (k : List (Nat × Nat)), CodeAt W6 B gg cc l k → CodeAt (W7.setCell ⟨O, 0, none⟩ (.slice (some ⟨gp, 0, none⟩) (ps.length + 1) cp)) B gg cc l k := fun gg cc l k hq => hq.later h78 (Nat.le_refl _)
  refine ⟨W6, W7, gp, cp, ⟨cell_blk he5 rfl, frz_blk he5, by omega, hW6, he6, ho6, r7, ho7, ⟨?_, ?_, ⟨lo1, lo2, by simp; omega⟩, h.tlen, ?_, fun i h1 h2 => hkey _ _ _ (htkid i h1 h2), by simp [h.len], ?_, fun i h1 h2 => ?_, fun i j hi hj hij => ?_⟩⟩⟩
  · refine h.bel.trans ((b16.mono (by have := h.bel.size; omega)).trans ((b7.mono (by omega)).trans ?_))
    exact (Below.refl _ W7).setCell (p := ⟨O, 0, none⟩) lo1 _
  · have := Lib.heap_setCell_same (i := 0) ho7 (.slice (some ⟨gp, 0, none⟩) (ps.length + 1) cp)
    simpa using this
  · exact owns_same (owns_grown htall q7 (by decide) kk) fun y hy _ => hk8 y (by omega)
  · rw [pgL_snoc h.len, List.length_append]
    exact owns_same n7 fun y hy _ => hk8 y (by omega)
  · have hgl := h.len
    by_cases hi : i < ps.length
    · have hl2 : i < C.length := by omega
      simp only [List.getElem_append_left hi, List.getElem_append_left hl2]
      exact hcey _ _ _ _ (hcod i hi hl2)
    · have hie : i = ps.length := by simp at h1; omega
      subst hie
      simp only [List.getElem_append_right (Nat.le_refl _), List.getElem_append_right (show C.length ≤ ps.length by omega), hgl, Nat.sub_self, List.getElem_cons_zero]
      exact hcey _ _ _ _ hC6
  · have hgl := h.len
    have hi2 : i < C.length := by simp at hj; omega
    have hlt := (h.cod i (by omega) hi2).lt
    have hb := hC.base
    by_cases hj2 : j < C.length
    · simp only [List.getElem_append_left hi2, List.getElem_append_left hj2]
      exact h.ord i j hi2 hj2 hij
    · have hje : j = C.length := by simp at hj; omega
      subst hje
      simp only [List.getElem_append_left hi2, List.getElem_append_right (Nat.le_refl _), Nat.sub_self, List.getElem_cons_zero]
      omega
end Go.Proofs.YtadmpgegolmkgaaDoor
