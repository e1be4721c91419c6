import Derived.Test.YtadmpgegolmkgaaDoorBWzTb
import Derived.Test.YtadmpgegolmkgaaDoorBWkE
import Derived.Test.YtadmpgegolmkgaaDoorBWyO
import Derived.Test.YtadmpgegolmkgaaDoorBWmE
set_option linter.unusedVariables false
set_option linter.unusedSimpArgs false
set_option maxHeartbeats 4000000
set_option maxRecDepth 100000
namespace Go.Proofs.YtadmpgegolmkgaaDoor
open Go.RowKit
theorem xS : ∀ k, k < 28 -> (aS.getD k aT).2.2.2 = if k ∈ [5, 6, 9, 16, 19, 20, 21, 24, 25, 27, 23] then 0 else if (aS.getD k aT).1 = [] then 0 else 1 := by decide
theorem Aa (op : Int) : (aX op).2.2.2 = if op ∈ [5, 6, 9, 16, 19, 20, 21, 24, 25, 27, 23] then 0 else if gZ op = [] then 0 else 1 := by
  by_cases h : 0 <= op /\ op < 28
  · obtain ⟨k, rfl⟩ : ∃ k : Nat, op = k := ⟨op.toNat, by omega⟩
    have e : aX (k : Nat) = aS.getD k aT := by unfold aX; rw [if_neg (by omega), Int.toNat_natCast]
    unfold gZ
    rw [e, xS k (by omega)]
    have e1 : ((k : Int) ∈ [5, 6, 9, 16, 19, 20, 21, 24, 25, 27, 23]) ↔ (k ∈ [5, 6, 9, 16, 19, 20, 21, 24, 25, 27, 23]) := by simp only [List.mem_cons, List.not_mem_nil, or_false]; omega
    simp only [e1]
  · have e : aX op = aT := by unfold aX; rw [if_pos (by omega)]
    unfold gZ
    rw [e, if_neg (by simp only [List.mem_cons, List.not_mem_nil, or_false]; omega)]
    rfl
theorem pQ (w : World) (i : CIn) (a : Option Addr) (cap : Nat) (hw : i.Wf) :
    Calls Tryd.prog 57 #[aR i a cap] w fun e w' => e = .returned (.int .i64 (au i)) /\ Below w.heap.size w w' := by
  obtain ⟨op, x, y, l⟩ := i
  have hop := hw.op
  have HB : Bx (∀ o, Below w.heap.size w (w.alloc o)) := ⟨fun o => ak w o⟩
  have hl := Aa op
  unfold au
  simp only [] at *
  generalize l.length = n
  by_cases h1 : op = 5 ∨ op = 6 ∨ op = 9 ∨ op = 16 ∨ op = 19 ∨ op = 20 ∨ op = 21 ∨ op = 24 ∨ op = 25 ∨ op = 27
  · have hk : (aX op).2.2.2 = 0 := by rw [hl, if_pos (by simp only [List.mem_cons, List.not_mem_nil, or_false]; omega)]
    rw [hk, if_neg (by omega)]
    clear hl hk hw hop
    rcases h1 with rfl | rfl | rfl | rfl | rfl | rfl | rfl | rfl | rfl | rfl <;>
      (go_enter Tryd.func57, Tryd.ntmps57
       go_wp2
       go_ret
       exact ⟨rfl, HB.out _⟩)
  by_cases h2 : op = 23
  · have hk : (aX op).2.2.2 = 0 := by rw [hl, if_pos (by simp only [List.mem_cons, List.not_mem_nil, or_false]; omega)]
    rw [hk]
    clear hl hk hw hop
    subst h2
    by_cases h3 : y = 1
    · subst h3
      rw [if_pos ⟨rfl, rfl⟩]
      go_enter Tryd.func57, Tryd.ntmps57
      go_wp2
      go_ret
      exact ⟨rfl, HB.out _⟩
    · rw [if_neg (fun h => h3 h.2)]
      have b3 : (y == 1) = false := by simpa using h3
      go_enter Tryd.func57, Tryd.ntmps57
      go_wp2
      go_ret
      exact ⟨rfl, HB.out _⟩
  · rw [not_or, not_or, not_or, not_or, not_or, not_or, not_or, not_or, not_or] at h1
    obtain ⟨n1, n2, n3, n4, n5, n6, n7, n8, n9, n10⟩ := h1
    rw [hl, if_neg (fun h => h2 h.1), if_neg (by simp only [List.mem_cons, List.not_mem_nil, or_false]; omega)]
    have HN : Bx (∀ W, _) := ⟨fun W => uy op W hop⟩
    have b1 : (op == 5) = false := by simpa using n1
    have b2 : (op == 6) = false := by simpa using n2
    have b3 : (op == 9) = false := by simpa using n3
    have b4 : (op == 16) = false := by simpa using n4
    have b5 : (op == 19) = false := by simpa using n5
    have b6 : (op == 20) = false := by simpa using n6
    have b7 : (op == 21) = false := by simpa using n7
    have b8 : (op == 24) = false := by simpa using n8
    have b9 : (op == 25) = false := by simpa using n9
    have b10 : (op == 27) = false := by simpa using n10
    have b11 : (op == 23) = false := by simpa using h2
    have HBB : Bx (∀ o w2, Below (w.alloc o).heap.size (w.alloc o) w2 -> Below w.heap.size w w2) := ⟨fun o w2 hb => (ak w o).trans (hb.mono (by simp))⟩
    clear hl hw hop
    by_cases hn : gZ op = []
    · rw [if_pos hn]
      rw [hn] at HN
      go_enter Tryd.func57, Tryd.ntmps57
      go_wp2_with (go_at_call 78; refine (HN.out _).mono ?_; rintro e w1 ⟨rfl, hb1⟩)
      go_ret
      exact ⟨rfl, HBB.out _ _ hb1⟩
    · rw [if_neg hn]
      generalize gZ op = nm at *
      have n3 : nm.isEmpty = false := by
        cases nm with
        | nil => exact absurd rfl hn
        | cons a b => rfl
      go_enter Tryd.func57, Tryd.ntmps57
      go_wp2_with (go_at_call 78; refine (HN.out _).mono ?_; rintro e w1 ⟨rfl, hb1⟩)
      go_ret
      exact ⟨rfl, HBB.out _ _ hb1⟩
end Go.Proofs.YtadmpgegolmkgaaDoor
namespace Go.Proofs.YtadmpgegolmkgaaDoor
section
variable {P : Program} {ops : Array Oper} {Q : Exit -> Act -> World -> Prop}
abbrev aV := Nat -> Option Value
def aV.put (u : aV) (i : Nat) (v : Value) : aV := fun j => if j = i then some v else u j
theorem aV.bU (u : aV) (i : Nat) (v : Value) : u.put i v i = some v := by simp [aV.put]
theorem aV.bf (u : aV) {i j : Nat} (v : Value) (h : j ≠ i) : u.put i v j = u j := by simp [aV.put, h]
structure jY (ops : Array Oper) (a0 : Act) (u : aV) (a : Act) : Prop where
 def_ : a.defers = a0.defers
 size : a.tmps.size = a0.tmps.size
 get : ∀ (j : Nat) (o : Oper) (t : Tmp) (v : Value), ops[j]? = some o -> o.dst = some t -> u j = some v -> a.tmps[t]? = if t < a0.tmps.size then some v else none
 old : ∀ t : Tmp, (∀ (j : Nat) (o : Oper), ops[j]? = some o -> o.dst = some t -> u j = none) -> a.tmps[t]? = a0.tmps[t]?
theorem jY.put {a0 : Act} {u : aV} {a : Act} (h : jY ops a0 u a) (hok : fK ops = true) {i : Nat} {o : Oper} (hi : ops[i]? = some o) (v : Value) : jY ops a0 (u.put i v) (a.put o.dst v) := by
 refine ⟨(mX _ _ _).trans h.def_, (jd _ _ _).trans h.size, fun j oj t x hj hd hx => ?_, fun t ht => ?_⟩
 ·by_cases hji : j = i
  ·subst hji
   rw [hi] at hj
   cases hj
   rw [aV.bU] at hx
   cases hx
   rw [hd, put_eq, h.size]
  ·rw [aV.bf _ _ hji] at hx
   have hne : o.dst ≠ some t := fun e => by
    have := ((fG hok hi).2 j oj t hj hd).2 (fun e' => hji e'.symm)
    exact this e
   rw [bf _ _ _ hne]
   exact h.get j oj t x hj hd hx
 ·have hne : o.dst ≠ some t := fun e => by
   have := ht i o hi e
   rw [aV.bU] at this
   cases this
  rw [bf _ _ _ hne]
  refine h.old t fun j oj hj hd => ?_
  have := ht j oj hj hd
  by_cases hji : j = i
  ·subst hji; rw [aV.bU] at this; cases this
  ·rw [aV.bf _ _ hji] at this; exact this
theorem jY.at_ {a0 : Act} {u : aV} {a : Act} (h : jY ops a0 u a) {j : Nat} {o : Oper} {t : Tmp} {v : Value} (hj : ops[j]? = some o) (hd : o.dst = some t) (hv : u j = some v) (ht : t < a0.tmps.size) : a.eval (.tmp t) = v := by
 have := h.get j o t v hj hd hv
 rw [if_pos ht] at this
 simp [Act.eval, Array.getD_eq_getD_getElem?, this]
theorem jY.was {a0 : Act} {u : aV} {a : Act} (h : jY ops a0 u a) {t : Tmp} (hn : (ops.toList.all fun o => o.dst != some t) = true) : a.eval (.tmp t) = a0.eval (.tmp t) := by
 have := h.old t fun j o hj hd => by
  have hm : o ∈ ops.toList := by
   rw [← Array.getElem?_toList] at hj
   exact List.mem_of_getElem? hj
  have := List.all_eq_true.1 hn o hm
  simp [hd] at this
 simp [Act.eval, Array.getD_eq_getD_getElem?, this]
def AP (P : Program) (S : aV -> World -> Prop) (u : aV) (i : Nat) (o : Oper) (a : Act) (w : World) : Prop :=
 o.guard = none /\ ((∃ v w', (execOp a.eval o).run P w = .ok (.value v) w' /\ S (u.put i v) w') ∨ (∃ w', (execOp a.eval o).run P w = .ok .skip w' /\ S (u.put i undef) w') ∨ ∃ f args, (execOp a.eval o).run P w = .ok (.enter f args) w /\ Calls P f args w fun e w' => ∃ v, e = .returned v /\ S (u.put i v) w')
theorem uz {a0 : Act} (S : aV -> World -> Prop) (hok : fK ops = true)
  (hstep : ∀ (u : aV) (w : World) (i : Nat) (o : Oper) (a : Act), S u w -> u i = none -> ops[i]? = some o -> (∀ e ∈ o.after, Region.binds .any e = true -> ∃ v, u e.on = some v) -> jY ops a0 u a -> AP P S u i o a w)
  (hend : ∀ (u : aV) (a : Act) (w : World), (∀ i, i < ops.size -> ∃ v, u i = some v) -> jY ops a0 u a -> S u w -> Q .normal a w) :
  ∀ (fuel : Nat) (L : Array Bool) (u : aV) (a : Act) (w : World), qB L <= fuel -> L.size = ops.size -> (∀ i, L.getD i false = true -> ∃ v, u i = some v) -> (∀ i, L.getD i true = false -> u i = none) -> jY ops a0 u a -> S u w -> wpAny P .any ops Q fuel L a w := by
 have hfin : ∀ (L : Array Bool) (u : aV) (a : Act) (w : World), L.size = ops.size -> (∀ i, L.getD i false = true -> ∃ v, u i = some v) -> jY ops a0 u a -> S u w -> Region.ready .any ops L = [] -> Q .normal a w := by
  intro L u a w hL h1 hA hS hr
  have hon := wm hL (fun i o hi => (fG hok hi).1) hr
  exact hend u a w (fun i hi => h1 i (hon i hi)) hA hS
 intro fuel
 induction fuel with
 | zero =>
  intro L u a w hf hL h1 h2 hA hS
  have hr : Region.ready .any ops L = [] := by
   rw [List.eq_nil_iff_forall_not_mem]
   intro i hi
   obtain ⟨hu, _⟩ := mem_ready.1 hi
   have := jc hu
   omega
  exact ⟨hr, hfin L u a w hL h1 hA hS hr⟩
 | succ fuel ih =>
  intro L u a w hf hL h1 h2 hA hS
  refine ⟨fun hr => hfin L u a w hL h1 hA hS hr, fun i hi => ?_⟩
  obtain ⟨hu, o, ho, hall⟩ := mem_ready.1 hi
  obtain ⟨hg, hst⟩ := hstep u w i o a hS (h2 i hu) ho (fun e he hb => h1 _ (hall e he hb)) hA
  have hnext : ∀ v w', S (u.put i v) w' -> wpAny P .any ops Q fuel (L.setIfInBounds i true) (a.put o.dst v) w' := fun v w' hS' => by
   refine ih _ (u.put i v) _ _ (by have := jc hu; omega) (by simpa using hL) (fun j hj => ?_) (fun j hj => ?_) (hA.put hok ho v) hS'
   ·by_cases hji : j = i
    ·subst hji; exact ⟨v, aV.bU _ _ _⟩
    ·rw [getD_set_ne false (fun e => hji e.symm)] at hj
     rw [aV.bf _ _ hji]
     exact h1 j hj
   ·by_cases hji : j = i
    ·subst hji
     exfalso
     have hlt : j < L.size := by
      rcases Nat.lt_or_ge j L.size with h' | h'
      ·exact h'
      ·rw [Array.getD_eq_getD_getElem?, Array.getElem?_eq_none h'] at hu; cases hu
     rw [Array.getD_eq_getD_getElem?, Array.getElem?_setIfInBounds_self_of_lt hlt] at hj
     cases hj
    ·rw [getD_set_ne true (fun e => hji e.symm)] at hj
     rw [aV.bf _ _ hji]
     exact h2 j hj
  unfold wpOp
  simp only [ho]
  rw [if_pos (by simp [Region.wanted, hg])]
  refine .inl ?_
  unfold Oper.wp
  rcases hst with ⟨v, w', h3, h4⟩ | ⟨w', h3, h4⟩ | ⟨f, args, h3, h4⟩
  ·rw [h3]
   exact hnext v w' h4
  ·rw [h3]
   exact hnext undef w' h4
  ·rw [h3, Oper.upon_enter]
   refine Calls.mono h4 ?_
   rintro e w' ⟨v, rfl, h5⟩
   exact hnext v w' h5
theorem eT {l : List Oper} {id : Nat} {a : Act} {w : World} (S : aV -> World -> Prop) (hm : P.follows .mixedOrders = true) (hok : fK l.toArray = true) (hS : S (fun _ => none) w.drew)
  (hstep : ∀ (u : aV) (w : World) (i : Nat) (o : Oper) (b : Act), S u w -> u i = none -> l[i]? = some o -> (∀ e ∈ o.after, Region.binds .any e = true -> ∃ v, u e.on = some v) -> jY l.toArray a u b -> AP P S u i o b w)
  (hend : ∀ (u : aV) (vs : List Value) (w' : World), vs.length = l.length -> (∀ i, i < l.length -> u i = vs[i]?) -> S u w' -> ∃ F, aH l vs a = F /\ Q .normal F w') : (Code.region id l.toArray true).wp P Q a w := by
 refine wp_region_any hm (uz (a0 := a) S hok (fun u w i o b h1 h2 h3 h4 h5 => hstep u w i o b h1 h2 (by simpa using h3) h4 h5) (fun u b w' h1 h2 h3 => ?_) _ _ (fun _ => none) a _ ?_ (by simp) (fun i hi => ?_) (fun _ _ => rfl) ⟨rfl, rfl, (fun _ _ _ _ _ _ h => by cases h), fun _ _ => rfl⟩ hS)
 ·obtain ⟨vs, hvl, hvs⟩ : ∃ vs : List Value, vs.length = l.length /\ ∀ i, i < l.length -> u i = vs[i]? := by
   have key : ∀ n, n <= l.length -> ∃ vs : List Value, vs.length = n /\ ∀ i, i < n -> u i = vs[i]? := by
    intro n
    induction n with
    | zero => intro _; exact ⟨[], rfl, fun i h => by omega⟩
    | succ n ih =>
     intro hn
     obtain ⟨vs, hl, hv⟩ := ih (by omega)
     obtain ⟨v, hvn⟩ := h1 n (by simp; omega)
     refine ⟨vs ++ [v], by simp [hl], fun i hi => ?_⟩
     by_cases hin : i < n
     ·rw [List.getElem?_append_left (by omega)]; exact hv i hin
     ·obtain rfl : i = n := by omega
      rw [List.getElem?_append_right (by omega), hl, Nat.sub_self, hvn]; rfl
   exact key _ (Nat.le_refl _)
  have hpw : l.Pairwise (fun x y => ∀ d, x.dst = some d -> y.dst ≠ some d) := by
   rw [List.pairwise_iff_getElem]
   intro i j hi hj hij d q1 q2
   exact ((fG hok (i := j) (o := l[j]) (by simp [hj])).2 i l[i] d (by simp [hi]) q1).2 (by omega) q2
  obtain ⟨hs1, hs2⟩ := jF l vs a
  have hb : b = aH l vs a := by
   have e1 : b.tmps = (aH l vs a).tmps := Array.ext_getElem? fun t => by
    by_cases hex : ∃ (j : Nat) (o : Oper), l[j]? = some o /\ o.dst = some t
    ·obtain ⟨j, o, hj, hd⟩ := hex
     have hjl := (List.getElem?_eq_some_iff.1 hj).1
     obtain ⟨v, hv⟩ := h1 j (by simpa using hjl)
     rw [h2.get j o t v (by simpa using hj) hd hv, mY l vs a hvl hpw j o v hj (by rw [← hvs j hjl]; exact hv) hd]
    ·have hno : ∀ o ∈ l, o.dst ≠ some t := fun o ho e => by
      obtain ⟨j, hj⟩ := List.getElem?_of_mem ho
      exact hex ⟨j, o, hj, e⟩
     rw [kr l vs a hno]
     exact h2.old t fun j o hj hd => absurd hd (hno o (List.mem_of_getElem? (by simpa using hj)))
   have e2 : b.defers = (aH l vs a).defers := h2.def_.trans hs2.symm
   cases b
   cases hf : aH l vs a
   rw [hf] at e1 e2
   simp only at e1 e2
   rw [e1, e2]
  obtain ⟨F, hF, hQ⟩ := hend u vs w' hvl hvs h3
  rw [hb, hF]
  exact hQ
 ·unfold qB
  refine Nat.le_trans List.count_le_length ?_
  simp
 ·exfalso
  revert hi
  rw [Array.getD_eq_getD_getElem?, Array.getElem?_replicate]
  split <;> simp
end
end Go.Proofs.YtadmpgegolmkgaaDoor
namespace Go.Proofs.YtadmpgegolmkgaaDoor
open Go.RowKit
abbrev aW (x : CIn) (ka : Option Addr) (kc : Nat) : Array Value := #[.int .i64 x.op, .int .i64 x.a, .int .i64 x.b, .slice ka x.list.length kc]
structure RLD (w X : World) (pg : CPg) (ca : Option Addr) (cc : Nat) (x : CIn) (ka : Option Addr) (kc : Nat) (t : RSt) (ib yb : Nat) : Prop where
 bel : Below w.heap.size w X
 bh : X.heap[w.heap.size]? = some (.cells (pgC pg ca cc) 40 (0, 0))
 bi : X.heap[ib]? = some (.cells (aW x ka kc) 43 (0, 0))
 bt : X.heap[yb]? = some (.cells (stA t) 77 (0, 0))
 lo : w.heap.size <= ib /\ w.heap.size <= yb
theorem RLD.later {w X Y : World} {pg : CPg} {ca : Option Addr} {cc : Nat} {x : CIn} {ka : Option Addr} {kc : Nat} {t : RSt} {ib yb : Nat} (h : RLD w X pg ca cc x ka kc t ib yb) (hY : Below X.heap.size X Y) : RLD w Y pg ca cc x ka kc t ib yb :=
 ⟨h.bel.trans (hY.mono h.bel.size), (hY.block _ (ah h.bh)).trans h.bh, (hY.block _ (ah h.bi)).trans h.bi, (hY.block _ (ah h.bt)).trans h.bt, h.lo⟩
theorem RLD.cells {w X : World} {pg : CPg} {ca : Option Addr} {cc : Nat} {x : CIn} {ka : Option Addr} {kc : Nat} {t : RSt} {ib yb : Nat} (h : RLD w X pg ca cc x ka kc t ib yb) :
  (X.cell? ⟨w.heap.size, 0, none⟩ = some (.int .i64 pg.params) /\ X.cell? ⟨w.heap.size, 1, none⟩ = some (.int .i64 pg.slots) /\ X.cell? ⟨w.heap.size, 2, none⟩ = some (.int .i64 pg.caps) /\ X.cell? ⟨w.heap.size, 3, none⟩ = some (.bool pg.res) /\ X.cell? ⟨w.heap.size, 4, none⟩ = some (.slice ca pg.code.length cc) /\ w.heap.size < X.heap.size) /\
  (X.cell? ⟨ib, 0, none⟩ = some (.int .i64 x.op) /\ X.cell? ⟨ib, 1, none⟩ = some (.int .i64 x.a) /\ X.cell? ⟨ib, 2, none⟩ = some (.int .i64 x.b) /\ X.cell? ⟨ib, 3, none⟩ = some (.slice ka x.list.length kc) /\ ib < X.heap.size) /\
  (X.cell? ⟨yb, 0, none⟩ = some (.bool t.come) /\ X.cell? ⟨yb, 1, none⟩ = some (.bool t.seen) /\ X.cell? ⟨yb, 2, none⟩ = some (.int .i64 t.height) /\ X.cell? ⟨yb, 3, none⟩ = some (.int .i64 t.frm) /\ X.cell? ⟨yb, 4, none⟩ = some (.int .i64 t.slot) /\ X.cell? ⟨yb, 5, none⟩ = some (.bool t.given) /\ yb < X.heap.size) :=
 ⟨⟨aa h.bh rfl, aa h.bh rfl, aa h.bh rfl, aa h.bh rfl, aa h.bh rfl, ah h.bh⟩, ⟨aa h.bi rfl, aa h.bi rfl, aa h.bi rfl, aa h.bi rfl, ah h.bi⟩, ⟨aa h.bt rfl, aa h.bt rfl, aa h.bt rfl, aa h.bt rfl, aa h.bt rfl, aa h.bt rfl, ah h.bt⟩⟩
theorem RLD.one {w w1 : World} {pg : CPg} {ca : Option Addr} {cc : Nat} (hw1 : w.alloc (.cells (pgC pg ca cc) 40) = w1) (x : CIn) (ka : Option Addr) (kc : Nat) (t : RSt) : RLD w (((w1.alloc (.cells (aW x ka kc) 43)).alloc (.cells (stA t) 77)).drew) pg ca cc x ka kc t w1.heap.size (w1.heap.size + 1) := by
 have b1 : Below w.heap.size w w1 := by rw [← hw1]; exact ak w _
 have q1 : w1.heap[w.heap.size]? = some (.cells (pgC pg ca cc) 40 (0, 0)) := by rw [← hw1]; exact aj _ _ _ rfl
 obtain ⟨X, hX⟩ : ∃ X, w1.alloc (.cells (aW x ka kc) 43) = X := ⟨_, rfl⟩
 have sX : X.heap.size = w1.heap.size + 1 := by rw [← hX]; simp
 have qX : X.heap[w1.heap.size]? = some (.cells (aW x ka kc) 43 (0, 0)) := by rw [← hX]; exact aj _ _ _ rfl
 have bX : Below w1.heap.size w1 X := by rw [← hX]; exact ak w1 _
 rw [hX]
 have b2 := ak X (.cells (stA t) 77)
 have hs := b1.size
 exact ⟨((b1.trans (bX.mono hs)).trans (b2.mono (by omega))).drew, (b2.block _ (by have := ah q1; omega)).trans ((bX.block _ (ah q1)).trans q1), (b2.block _ (by omega)).trans qX, by rw [← sX]; exact aj _ _ _ rfl, by omega, by omega⟩
theorem RLD.two {w w1 : World} {pg : CPg} {ca : Option Addr} {cc : Nat} (hw1 : w.alloc (.cells (pgC pg ca cc) 40) = w1) (x : CIn) (ka : Option Addr) (kc : Nat) (t : RSt) : RLD w (((w1.alloc (.cells (stA t) 77)).alloc (.cells (aW x ka kc) 43)).drew) pg ca cc x ka kc t (w1.heap.size + 1) w1.heap.size := by
 have b1 : Below w.heap.size w w1 := by rw [← hw1]; exact ak w _
 have q1 : w1.heap[w.heap.size]? = some (.cells (pgC pg ca cc) 40 (0, 0)) := by rw [← hw1]; exact aj _ _ _ rfl
 obtain ⟨X, hX⟩ : ∃ X, w1.alloc (.cells (stA t) 77) = X := ⟨_, rfl⟩
 have sX : X.heap.size = w1.heap.size + 1 := by rw [← hX]; simp
 have qX : X.heap[w1.heap.size]? = some (.cells (stA t) 77 (0, 0)) := by rw [← hX]; exact aj _ _ _ rfl
 have bX : Below w1.heap.size w1 X := by rw [← hX]; exact ak w1 _
 rw [hX]
 have b2 := ak X (.cells (aW x ka kc) 43)
 have hs := b1.size
 exact ⟨((b1.trans (bX.mono hs)).trans (b2.mono (by omega))).drew, (b2.block _ (by have := ah q1; omega)).trans ((bX.block _ (ah q1)).trans q1), by rw [← sX]; exact aj _ _ _ rfl, (b2.block _ (by omega)).trans qX, by omega, by omega⟩
theorem fZ (w : World) (B : Nat) (hB : B <= w.heap.size) (pg : CPg) (ca : Option Addr) (cc : Nat) (hc : Row (cu w B) B 4 ca cc pg.code) (hcl : pg.code.length <= 268435456) (v : Value) (B' : Nat) (S : List RSt) (h : StO w B' v S) (hS : S.length = pg.code.length) (i : Nat) (hi : i < pg.code.length) (Q : Ending -> World -> Prop)
  (H : ∀ ka kc, aF w B ka kc pg.code[i].list -> ∀ r0 r1 c, Tryd.f38.body = some (.seq r0 (.seq r1 c)) -> ∀ (X : World) (ib yb : Nat) (u14 u15 u16 u17 u18 u19 u20 u21 u22 : Value), RLD w X pg ca cc pg.code[i] ka kc (S[i]'(by omega)) ib yb -> Code.wp Tryd.prog c (bodyPost Tryd.prog Tryd.f38 Q) { tmps := #[.agg (pgC pg ca cc), v, .int .i64 (i : Nat), .pointer (some ⟨w.heap.size, 0, none⟩), undef, undef, .int .i64 0, .pointer (some ⟨ib, 0, none⟩), .pointer (some ⟨yb, 0, none⟩), undef, undef, undef, undef, undef, u14, u15, u16, u17, u18, u19, u20, u21, u22, undef, undef, undef, undef, undef, undef, undef, undef, undef, undef, undef, undef, undef, undef, undef, undef, undef, undef, undef, undef, undef, undef, undef, undef, undef, undef, undef, undef, undef, undef, undef, undef, undef, undef, undef, undef, undef, undef, undef, undef, undef, undef, undef, undef, undef, undef, undef, undef, undef, undef, undef, undef, undef, undef, undef, undef, undef, undef, undef, undef, undef, undef, undef, undef, undef, undef, undef, undef, undef, undef, undef, undef, undef, undef, undef, undef, undef, undef, undef, undef, undef, undef, undef, undef, undef, undef, undef, undef, undef, undef, undef, undef, undef, undef, undef, undef, undef, undef, undef, undef, undef, undef, undef, undef, undef, undef, undef, undef, undef, undef, undef, undef, undef, undef, undef, undef, undef, undef, undef, undef, undef, undef, undef, undef, undef, undef, undef, undef, undef, undef, undef, undef, undef, undef, undef], defers := [] } X) :
  Calls Tryd.prog 38 #[.agg (pgC pg ca cc), v, .int .i64 (i : Nat)] w Q := by
 obtain ⟨cb, co, ka, kc, rfl, hcb, hks, HC⟩ := bF hc hi
 have hcc := hc.cap
 have hiS : i < S.length := by omega
 obtain ⟨gs, c, rfl, hcl2, hcm, hgB, hgl, cur, hgk, hgc⟩ := h.ex hiS
 obtain ⟨s0, s1, s2, s3, s4, s5⟩ := h.cells hiS
 obtain ⟨w1, hw1⟩ : ∃ w1, w.alloc (.cells (pgC pg (some ⟨cb, co, none⟩) cc) 40) = w1 := ⟨_, rfl⟩
 have b1 : Below w.heap.size w w1 := by rw [← hw1]; exact ak w _
 obtain ⟨x0, x1, x2, x3⟩ := HC.out w1 (b1.mono hB)
 have ke := fun j => b1.cell (p := ⟨gs, j, none⟩) hgl
 rw [← ke] at s0 s1 s2 s3 s4 s5
 have q1 : w1.heap[w.heap.size]? = some (.cells (pgC pg (some ⟨cb, co, none⟩) cc) 40 (0, 0)) := by rw [← hw1]; exact aj _ _ _ rfl
 have p0 := aa (i := 4) q1 rfl
 have hwl : w.heap.size < w1.heap.size := ah q1
 have hcbl : cb < w1.heap.size := by omega
 have hgl1 : gs < w1.heap.size := by omega
 have hiI : (i : Int) < (pg.code.length : Int) := by omega
 have hiI2 : (i : Int) < (S.length : Int) := by omega
 unfold maxLen at hcm
 have HH : Bx _ := ⟨H ka kc hks⟩
 have H1 : Bx _ := ⟨RLD.one hw1 pg.code[i] ka kc S[i]⟩
 have H2 : Bx _ := ⟨RLD.two hw1 pg.code[i] ka kc S[i]⟩
 generalize hxx : pg.code[i] = x at *
 generalize htt : S[i] = t at *
 rw [hS] at HH
 have hcp0 : w1.cell? ⟨w.heap.size, 4, none⟩ = some (.slice (some ⟨cb, co, none⟩) pg.code.length cc) := p0
 clear h hks H hc HC b1 q1 hgk ke p0
 unfold pgC at *
 go_enter Tryd.func38, Tryd.ntmps38
 go_wp2_with fail
 rename_i K2 hK
 go_region
 ·simp only [Exit.then]
  exact hK _ _ (HH.out _ _ _ rfl _ _ _ _ _ _ _ _ _ _ _ _ H1.out)
 ·simp only [Exit.then]
  exact hK _ _ (HH.out _ _ _ rfl _ _ _ _ _ _ _ _ _ _ _ _ H2.out)
end Go.Proofs.YtadmpgegolmkgaaDoor
