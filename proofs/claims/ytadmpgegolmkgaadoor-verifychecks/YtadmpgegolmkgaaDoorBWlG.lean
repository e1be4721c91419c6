import Derived.Test.YtadmpgegolmkgaaDoorBWlA
import Derived.Test.YtadmpgegolmkgaaDoorBWkE
set_option linter.unusedVariables false
set_option linter.unusedSimpArgs false
set_option maxHeartbeats 4000000
set_option maxRecDepth 100000
namespace Go.Proofs.YtadmpgegolmkgaaDoor
open Go.RowKit Go.MapKept Go.ChangeMaps Go.WideShapes
theorem tT {w : World} {wb : Nat} {g : WG} {A : WA} {L gb : Nat} {P : Prs} {K : List Wy} {D : Nat -> Bool} {B : Nat} {code : List CIn} {ca : Option Addr} {cc i : Nat} {x : CIn} {p : Wy} {res : Bool} (h : LkE w wb g A L gb P K D B code ca cc i x p res) (hl : ¬ (p.1 : Int) - 1 < ax x) (ho : (x.op == 4 || x.op == 6 || x.op == 16) = false) (h25 : x.op = 25) (hg : (!(x.op == 19 || x.op == 21 || x.op == 25 || x.op == 27)) = false) (hrs : (p.1 : Int) - 1 = if res then 1 else 0) (hL : L < 60) (hP : P.length + L < 1099511627776) (ha : x.op = 5 ∨ x.op = 6 -> 0 <= x.a /\ x.a <= 2147483648) (hs : vsP L P p.2) (ht : jW g.n i x) (hpu : 0 <= au x /\ au x <= 1) (hpo : 0 <= ax x) (ab : Nat) (hab2 : ab < 4611686018427387904) (hab : (ab : Int) = (p.1 : Int) + (au x - ax x)) (r : Bool) (hr : (aC (aQ i x (ab, (past L P p.2 x.op x.a).2)) K D).1 = r)
  : Calls Tryd.prog 44 #[.pointer (some ⟨wb, 0, none⟩), .int .i64 (i : Int)] w fun e w' => e = .returned (.int .i64 (if r then 0 else 95)) /\ Bx (aK w wb g A L gb (past L P p.2 x.op x.a).1 (aC (aQ i x (ab, (past L P p.2 x.op x.a).2)) K D).2.1 (aC (aQ i x (ab, (past L P p.2 x.op x.a).2)) K D).2.2 w') := by
 refine eB h _ ?_
 intro ka kc hks r0 r1 c hbody X ib yb u8 u9 u10 u11 u12 u13 u14 u15 u16 u17 u18 u19 u20 u21 u22 hX
 unfold Tryd.f44 at hbody
 simp only [Option.some.injEq, Code.seq.injEq] at hbody
 obtain ⟨-, -, rfl⟩ := hbody
 have hp1 := h.p1
 have hp2 := h.p2
 have HPO : Bx (∀ X ib yb, LD w X ib yb x ka kc p -> _) := ⟨fun X ib yb hX => h.iT hks hX⟩
 have hwr : IntKind.i64.wrap ((p.1 : Int) - 1) = (p.1 : Int) - 1 := by rw [IntKind.wrap_i64]; omega
 have HN : Bx (∀ X, _) := ⟨fun X => bO x.op X⟩
 have HB : Bx (∀ X, _) := ⟨fun X => bP x.op X⟩
 have H0 : Bx _ := ⟨hX⟩
 have H4 : Bx (∀ X, Below w.heap.size w X -> X.cell? ⟨wb, 4, none⟩ = some (.slice ca code.length cc)) := ⟨fun X hX => by have := (h.wk.below hX).cells.2.2.2.2.1; rw [h.a4] at this; exact this⟩
 have HQ : Bx (∀ X ib yb, LD w X ib yb x ka kc p -> _) := ⟨fun X ib yb hX => h.pushes hX⟩
 have HG : Bx (∀ X ib yb, LD w X ib yb x ka kc (ab, p.2) -> _) := ⟨fun X ib yb hX => h.rest hL hP ha hs ht ab (by omega) X hX⟩
 rw [hr] at HG
 have hwa : IntKind.i64.wrap (au x - ax x) = au x - ax x := by rw [IntKind.wrap_i64]; omega
 have hwb : IntKind.i64.wrap ((p.1 : Int) + (au x - ax x)) = (ab : Int) := by rw [hab, IntKind.wrap_i64]; omega
 have b25 : (x.op == 25) = true := by simp [h25]
 rw [hg] at HB
 have HRS : Bx (∀ X, Below w.heap.size w X -> Calls Tryd.prog 65 #[.pointer (some ⟨wb, 0, none⟩)] X fun e w' => e = .returned (.int .i64 ((p.1 : Int) - 1)) /\ X = w') := ⟨fun X hX => by rw [hrs]; exact jO X wb res (by have := (h.wk.below hX).cells.2.2.2.1; rw [h.a3] at this; exact this)⟩
 unfold aR at HQ
 generalize au x = pu at *
 generalize past L P p.2 x.op x.a = RR at *
 generalize aC (aQ i x (ab, RR.2)) K D = CC at *
 clear hg hrs hr hab h25 hs ht ha hpu hpo
 unfold aR at HPO
 clear h hks hX
 generalize ax x = tk at *
 obtain ⟨z0, z1, z2, z3, z4, z5, _, _⟩ := H0.out.cells
 go_wp2_with (first
  | (go_at_call 16; refine (HPO.out _ _ _ H0.out).mono ?_; rintro e w2 ⟨rfl, hc2⟩; have HC2 : Bx _ := ⟨hc2⟩; clear hc2 z0 z1 z2 z3 z4 z5 H0))
 refine aM [?wl13x0, ?wl13x1, .int .i64 ((p.1 : Int) - 1), ?wl13x3, .bool false, ?wl13x5, ?wl13x6, ?wl13x7, .bool true, ?wl13x9, ?wl13x10, ?wl13x11, .int .i64 ((p.1 : Int) - 1), ?wl13x13, .int .i64 ((p.1 : Int) - 1), .bool false, .bool false, .bool false, .bool false] (fun Y => LD w Y ib yb x ka kc p) (by kernel_rfl) (by decide +kernel) (HC2.out.drewN 1) (dG 26 18 (by decide +kernel) (by rfl) (by exact Nat.le_of_ble_eq_true rfl) (by exact Nat.le_of_ble_eq_true rfl) (by simp only [List.drop_succ_cons, List.drop_zero, List.drop_nil, List.take_succ_cons, List.take_zero, List.cons_append, List.nil_append, aH, Act.put, List.setIfInBounds_toArray, List.set_cons_zero, List.set_cons_succ]; rfl)) ?wl13st ?wl13en
 case wl13st =>
  refine af (ag (by rfl) (fun Y hY => ?_)) ?_
  ·go_simp; try rfl
  refine af (ag (by rfl) (fun Y hY => ?_)) ?_
  ·obtain ⟨z0, z1, z2, z3, z4, z5, _, _⟩ := hY.cells; go_simp; try rfl
  refine af (ag (by rfl) (fun Y hY => ?_)) ?_
  ·go_simp; try rfl
  refine af (ag (by rfl) (fun Y hY => ?_)) ?_
  ·go_simp; try rfl
  refine af (ag (by rfl) (fun Y hY => ?_)) ?_
  ·go_simp; try rfl
  refine af (ag (by rfl) (fun Y hY => ?_)) ?_
  ·go_simp; try rfl
  refine af (ag (by rfl) (fun Y hY => ?_)) ?_
  ·go_simp; try rfl
  refine af (ag (by rfl) (fun Y hY => ?_)) ?_
  ·obtain ⟨z0, z1, z2, z3, z4, z5, _, _⟩ := hY.cells; go_simp; try rfl
  refine af (ag (by rfl) (fun Y hY => ?_)) ?_
  ·go_simp; try rfl
  refine af (ag (by rfl) (fun Y hY => ?_)) ?_
  ·go_simp; try rfl
  refine af (ag (by rfl) (fun Y hY => ?_)) ?_
  ·go_simp; try rfl
  refine af (ag (by rfl) (fun Y hY => ?_)) ?_
  ·obtain ⟨z0, z1, z2, z3, z4, z5, _, _⟩ := hY.cells; go_simp; try rfl
  refine af (ag (by rfl) (fun Y hY => ?_)) ?_
  ·go_simp; try rfl
  refine af (ag (by rfl) (fun Y hY => ?_)) ?_
  ·go_simp; try rfl
  refine af (bE 65 #[.pointer (some ⟨wb, 0, none⟩)] (by rfl) (fun Y hY => ?_) (fun Y hY => ?_)) ?_
  ·simp only [execOp]; go_simp
  ·refine Calls.mono (HRS.out Y hY.bel) ?_; rintro e z ⟨rfl, rfl⟩; exact ⟨rfl, hY⟩
  refine af (ag (by rfl) (fun Y hY => ?_)) ?_
  ·go_simp; try rfl
  refine af (ag (by rfl) (fun Y hY => ?_)) ?_
  ·go_simp; try rfl
  refine af (ag (by rfl) (fun Y hY => ?_)) ?_
  ·go_simp; try rfl
  refine af (ag (by rfl) (fun Y hY => ?_)) ?_
  ·go_simp; try rfl
  exact bD
 intro w3 hz3
 have HC3 : Bx _ := ⟨hz3⟩
 clear hz3 HC2
 go_wp2
 refine aM [?wl14x0, ?wl14x1, .bool false, ?wl14x3, undef, undef, undef, undef, undef, undef, undef, undef, undef, .bool false, .bool false] (fun Y => LD w Y ib yb x ka kc p) (by kernel_rfl) (by decide +kernel) (HC3.out.drewN 1) (dG 45 14 (by decide +kernel) (by rfl) (by exact Nat.le_of_ble_eq_true rfl) (by exact Nat.le_of_ble_eq_true rfl) (by simp only [List.drop_succ_cons, List.drop_zero, List.drop_nil, List.take_succ_cons, List.take_zero, List.cons_append, List.nil_append, aH, Act.put, List.setIfInBounds_toArray, List.set_cons_zero, List.set_cons_succ]; rfl)) ?wl14st ?wl14en
 case wl14st =>
  refine af (ag (by rfl) (fun Y hY => ?_)) ?_
  ·go_simp; try rfl
  refine af (ag (by rfl) (fun Y hY => ?_)) ?_
  ·obtain ⟨z0, z1, z2, z3, z4, z5, _, _⟩ := hY.cells; go_simp; try rfl
  refine af (bE 66 #[.int .i64 x.op] (by rfl) (fun Y hY => ?_) (fun Y hY => ?_)) ?_
  ·simp only [execOp]; go_simp
  ·refine Calls.mono (HN.out Y) ?_; rintro e z ⟨rfl, rfl⟩; exact ⟨by rw [ho], hY⟩
  refine af (ag (by rfl) (fun Y hY => ?_)) ?_
  ·go_simp; try rfl
  refine af (ay (by rfl)) ?_
  refine af (ay (by rfl)) ?_
  refine af (ay (by rfl)) ?_
  refine af (ay (by rfl)) ?_
  refine af (ay (by rfl)) ?_
  refine af (ay (by rfl)) ?_
  refine af (ay (by rfl)) ?_
  refine af (ay (by rfl)) ?_
  refine af (ay (by rfl)) ?_
  refine af (ag (by rfl) (fun Y hY => ?_)) ?_
  ·go_simp; try rfl
  refine af (ag (by rfl) (fun Y hY => ?_)) ?_
  ·go_simp; try rfl
  exact bD
 intro w5 hz5
 have HC5 : Bx _ := ⟨hz5⟩
 clear hz5 HC3
 obtain ⟨y0, y1, y2, y3, y4, y5, y6, y7⟩ := HC5.out.cells
 go_wp2_with (first
  | (go_at_call 68; refine (HB.out _).mono ?_; rintro e z3 ⟨rfl, rfl⟩))
 go_region_with (first
  | (go_at_call 30; refine (HQ.out _ _ _ (HC5.out.drewN _)).mono ?_; rintro e w3 ⟨rfl, hc3⟩; have HC3 : Bx _ := ⟨hc3⟩; clear hc3; obtain ⟨x0, x1, x2, x3, x4, x5, x6, x7⟩ := HC3.out.cells))
 all_goals
  clear y0 y1 y2 y3 y4 y5 y6 y7 
  have HS0 : Bx _ := ⟨HC3.out.set0 ab⟩
  clear x0 x1 x2 x3 x4 x5 x6 x7 HC3
  obtain ⟨x0, x1, x2, x3, x4, x5, x6, x7⟩ := HS0.out.cells
  cases r with
  | true =>
   go_wp2_with (first
    | (go_at_call 69; refine (HG.out _ _ _ HS0.out).mono ?_; rintro e w5 ⟨rfl, q1, q2, q3, q4, HGO⟩; clear x0 x1 x2 x3 x4 x5 x6 x7)
    | (go_at_call 70; refine HGO.mono ?_; rintro e w7 ⟨rfl, HX⟩))
   go_ret
   exact ⟨rfl, HX⟩
  | false =>
   go_wp2_with (first
    | (go_at_call 69; refine (HG.out _ _ _ HS0.out).mono ?_; rintro e w5 ⟨rfl, q1, q2, q3, q4, HGO⟩; clear x0 x1 x2 x3 x4 x5 x6 x7)
    | (go_at_call 70; refine HGO.mono ?_; rintro e w7 ⟨rfl, HX⟩))
   go_ret
   exact ⟨rfl, HX⟩
end Go.Proofs.YtadmpgegolmkgaaDoor
namespace Go.Proofs.YtadmpgegolmkgaaDoor
def iB (op : Int) : Bool := op == 4 || op == 6 || op == 16
def oL (op : Int) : Bool := !(op == 19 || op == 21 || op == 25 || op == 27)
structure Wst where
 P : Prs
 K : List Wy
 D : Nat -> Bool
def abN (x : CIn) (p : Wy) : Nat := ((p.1 : Int) + (au x - ax x)).toNat
def goP (L i : Nat) (x : CIn) (p : Wy) (s : Wst) : Bool × List Wy × (Nat -> Bool) := aC (aQ i x (abN x p, (past L s.P p.2 x.op x.a).2)) s.K s.D
def bY (n : Nat) (res : Bool) (L i : Nat) (x : CIn) (p : Wy) (s : Wst) : Int × Wst :=
 if (p.1 : Int) - 1 < ax x then (94, s)
 else if x.op = 25 then (if (p.1 : Int) - 1 = (if res then 1 else 0) then 0 else 94, s)
 else if iB x.op = true /\ den L s.P p.2 x.a.toNat = false then (93, s)
 else if oL x.op = true /\ i + 1 = n then (96, s)
 else (if (goP L i x p s).1 then 0 else 95, ⟨(past L s.P p.2 x.op x.a).1, (goP L i x p s).2.1, (goP L i x p s).2.2⟩)
def cB (n : Nat) (D : Nat -> Bool) : Option Nat := (List.range n).find? D
def kA (K : List Wy) (i : Nat) : Wy := K[i]?.getD (0, 0)
def inA (code : List CIn) (i : Nat) : CIn := code[i]?.getD ⟨0, 0, 0, []⟩
def eO (n : Nat) (res : Bool) (L : Nat) (code : List CIn) : Nat -> Wst -> Nat × Int × Wst
 | 0, s => (0, 0, s)
 | f + 1, s => match cB n s.D with
  | none => (0, 0, s)
  | some i => if (bY n res L i (inA code i) (kA s.K i) ⟨s.P, s.K, del i s.D⟩).1 = 0 then eO n res L code f (bY n res L i (inA code i) (kA s.K i) ⟨s.P, s.K, del i s.D⟩).2 else (i, bY n res L i (inA code i) (kA s.K i) ⟨s.P, s.K, del i s.D⟩)
theorem least_some {n i : Nat} {D : Nat -> Bool} (h : cB n D = some i) : i < n /\ gu D i := by
 unfold cB at h
 obtain ⟨h1, h2⟩ := List.find?_eq_some_iff_append.1 h
 obtain ⟨l1, l2, h3, h4⟩ := h2
 have hi : i < n := by
  have : i ∈ List.range n := by rw [h3]; simp
  simpa using this
 refine ⟨hi, by simpa using h1, fun m hm => ?_⟩
 have hl : l1.length = i := by
  have h5 : (List.range n)[l1.length]? = some i := by rw [h3]; simp
  rw [List.getElem?_range (by have := congrArg List.length h3; simp at this; omega)] at h5
  simpa using h5
 have h6 : m ∈ l1 := by
  have h7 : (List.range n)[m]? = some m := List.getElem?_range (by omega)
  rw [h3, List.getElem?_append_left (by omega)] at h7
  exact List.mem_of_getElem? h7
 simpa using h4 m h6
theorem qC {n : Nat} {D : Nat -> Bool} (h : cB n D = none) (hD : ∀ i, D i = true -> i < n) : ∀ i, D i = false := by
 intro i
 unfold cB at h
 rw [List.find?_eq_none] at h
 cases hi : D i with
 | false => rfl
 | true => exact absurd hi (h i (by simpa using hD i hi))
theorem dR (K : List Wy) (i : Nat) (p : Wy) : (aI K i p).length = K.length := by
 unfold aI
 split
 ·rw [List.length_set]
 ·rfl
theorem mf : ∀ (nx : List (Nat × Wy)) (K : List Wy) (D : Nat -> Bool), (aC nx K D).2.1.length = K.length
 | [], K, D => rfl
 | (i, p) :: r, K, D => by
  rw [aC]
  split
  ·rw [mf r]; exact dR K i p
  ·exact dR K i p
theorem iH {K : List Wy} {i : Nat} (p : Wy) (hi : i < K.length) (j : Nat) : kA (aI K i p) j = if j = i /\ (kA K i).1 = 0 then p else kA K j := by
 unfold aI
 show kA (if (kA K i).1 = 0 then K.set i p else K) j = _
 by_cases hz : (kA K i).1 = 0
 ·rw [if_pos hz]
  by_cases hj : j = i
  ·subst hj
   rw [if_pos ⟨rfl, hz⟩]
   unfold kA
   rw [List.getElem?_set_self hi]
   rfl
  ·rw [if_neg fun e => hj e.1]
   unfold kA
   rw [List.getElem?_set_ne (Ne.symm hj)]
 ·rw [if_neg hz, if_neg fun e => hz e.2]
structure Kv (n L m : Nat) (P : Prs) (K : List Wy) (D : Nat -> Bool) : Prop where
 kn : n <= K.length
 dn : ∀ i, D i = true -> i < n /\ (kA K i).1 ≠ 0
 vs : ∀ i, i < n -> (kA K i).1 ≠ 0 -> vsP L P (kA K i).2
 ab : ∀ i, i < n -> (kA K i).1 <= m
theorem dX (K : List Wy) (i : Nat) (D : Nat -> Bool) (j : Nat) : aP K i D j = if (kA K i).1 = 0 then (D j || j == i) else D j := by
 unfold aP
 show (if (kA K i).1 = 0 then ins i D else D) j = _
 split <;> rfl
theorem Kv.come {n L m : Nat} {P : Prs} {K : List Wy} {D : Nat -> Bool} (h : Kv n L m P K D) {i : Nat} {p : Wy} (hi : i < n) (hp : p.1 ≠ 0) (hv : vsP L P p.2) (hm : p.1 <= m) : Kv n L m P (aI K i p) (aP K i D) := by
 have hk := h.kn
 have hc := fun j => iH (K := K) (i := i) p (by omega) j
 refine ⟨by rw [dR]; exact hk, fun j hj => ?_, fun j hj hz => ?_, fun j hj => ?_⟩
 ·rw [dX] at hj
  rw [hc]
  by_cases hz : (kA K i).1 = 0
  ·rw [if_pos hz] at hj
   by_cases hji : j = i
   ·subst hji
    rw [if_pos ⟨rfl, hz⟩]
    exact ⟨hi, hp⟩
   ·rw [if_neg fun e => hji e.1]
    exact h.dn j (by simpa [hji] using hj)
  ·rw [if_neg hz] at hj
   rw [if_neg fun e => hz e.2]
   exact h.dn j hj
 ·rw [hc] at hz ⊢
  split at hz
  ·rename_i e
   rw [if_pos e]
   exact hv
  ·rename_i e
   rw [if_neg e]
   exact h.vs j hj hz
 ·rw [hc]
  split
  ·exact hm
  ·exact h.ab j hj
theorem Kv.aC {n L m : Nat} {P : Prs} : ∀ (nx : List (Nat × Wy)) {K : List Wy} {D : Nat -> Bool}, Kv n L m P K D -> (∀ q ∈ nx, q.1 < n /\ q.2.1 ≠ 0 /\ vsP L P q.2.2 /\ q.2.1 <= m) -> Kv n L m P (aC nx K D).2.1 (aC nx K D).2.2
 | [], K, D, h, _ => h
 | (i, p) :: r, K, D, h, hq => by
  obtain ⟨q1, q2, q3, q4⟩ := hq (i, p) List.mem_cons_self
  have h1 := h.come q1 q2 q3 q4
  rw [Go.Proofs.YtadmpgegolmkgaaDoor.aC]
  split
  ·exact Kv.aC r h1 fun q hm => hq q (List.mem_cons_of_mem _ hm)
  ·exact h1
theorem Kv.mono {n L m m' : Nat} {P P' : Prs} {K : List Wy} {D : Nat -> Bool} (h : Kv n L m P K D) (hP : P <+: P') (hm : m <= m') : Kv n L m' P' K D :=
 ⟨h.kn, h.dn, fun i hi hz => (dm hP (h.vs i hi hz)).1, fun i hi => Nat.le_trans (h.ab i hi) hm⟩
theorem Kv.del {n L m : Nat} {P : Prs} {K : List Wy} {D : Nat -> Bool} (h : Kv n L m P K D) (i : Nat) : Kv n L m P K (del i D) :=
 ⟨h.kn, fun j hj => h.dn j (by unfold Go.Proofs.YtadmpgegolmkgaaDoor.del at hj; simp at hj; exact hj.1), h.vs, h.ab⟩
theorem je {f g : Nat -> Bool} {i : Nat} : ∀ {n : Nat}, i < n -> f i = true -> g i = false -> (∀ j, j ≠ i -> f j = g j) -> (List.range n).countP f = (List.range n).countP g + 1
 | 0, h, _, _, _ => by omega
 | n + 1, h, hf, hg, he => by
  rw [List.range_succ, List.countP_append, List.countP_append]
  by_cases hi : i = n
  ·subst hi
   have : (List.range i).countP f = (List.range i).countP g := List.countP_congr fun j hj => by
    have : j ≠ i := by have := List.mem_range.1 hj; omega
    rw [he j this]
   rw [this]
   simp [hf, hg]
  ·have := je (n := n) (by omega) hf hg he
   rw [this]
   have e : f n = g n := he n (Ne.symm hi)
   simp [List.countP_cons, e]
   omega
theorem wy {f g : Nat -> Bool} {n : Nat} (he : ∀ j, f j = g j) : (List.range n).countP f = (List.range n).countP g := by rw [funext he]
def zw (n : Nat) (K : List Wy) : Nat := (List.range n).countP fun i => (kA K i).1 == 0
def tX (n : Nat) (D : Nat -> Bool) : Nat := (List.range n).countP D
def mea (n : Nat) (K : List Wy) (D : Nat -> Bool) : Nat := 2 * zw n K + tX n D
theorem wF {n : Nat} {K : List Wy} {D : Nat -> Bool} {i : Nat} {p : Wy} (hi : i < n) (hk : n <= K.length) (hp : p.1 ≠ 0) : mea n (aI K i p) (aP K i D) <= mea n K D := by
 unfold mea
 have hc := fun j => iH (K := K) (i := i) p (by omega) j
 by_cases hz : (kA K i).1 = 0
 ·have h1 : zw n K = zw n (aI K i p) + 1 := by
   refine je hi (by simp [hz]) ?_ fun j hj => ?_
   ·rw [hc, if_pos ⟨rfl, hz⟩]
    simpa using hp
   ·rw [hc, if_neg fun e => hj e.1]
  have h2 : tX n (aP K i D) <= tX n D + 1 := by
   unfold tX
   cases hd : D i with
   | true =>
    have := wy (n := n) (f := aP K i D) (g := D) fun j => by
     rw [dX, if_pos hz]
     by_cases hj : j = i
     ·subst hj; simp [hd]
     ·simp [hj]
    omega
   | false =>
    have := je (n := n) (f := aP K i D) (g := D) hi (by rw [dX, if_pos hz]; simp) hd fun j hj => by rw [dX, if_pos hz]; simp [hj]
    omega
  omega
 ·have e1 : aI K i p = K := by unfold aI; exact if_neg hz
  have e2 : aP K i D = D := by unfold aP; exact if_neg hz
  rw [e1, e2]
  exact Nat.le_refl _
theorem mg {n : Nat} : ∀ (nx : List (Nat × Wy)) {K : List Wy} {D : Nat -> Bool}, n <= K.length -> (∀ q ∈ nx, q.1 < n /\ q.2.1 ≠ 0) -> mea n (aC nx K D).2.1 (aC nx K D).2.2 <= mea n K D
 | [], K, D, _, _ => Nat.le_refl _
 | (i, p) :: r, K, D, hk, hq => by
  obtain ⟨q1, q2⟩ := hq (i, p) List.mem_cons_self
  have h1 := wF (D := D) (p := p) q1 hk q2
  rw [aC]
  split
  ·exact Nat.le_trans (mg r (by rw [dR]; exact hk) fun q hm => hq q (List.mem_cons_of_mem _ hm)) h1
  ·exact h1
theorem rO {n : Nat} {K : List Wy} {D : Nat -> Bool} {i : Nat} (hi : i < n) (hd : D i = true) : mea n K (del i D) + 1 = mea n K D := by
 unfold mea tX
 have := je (n := n) (f := D) (g := del i D) hi hd (by simp [del]) fun j hj => by simp [del, hj]
 omega
theorem wG {n : Nat} {K : List Wy} {D : Nat -> Bool} : mea n K D <= 3 * n := by
 unfold mea zw tX
 have h1 := List.countP_le_length (p := fun i => (kA K i).1 == 0) (l := List.range n)
 have h2 := List.countP_le_length (p := D) (l := List.range n)
 simp at h1 h2
 omega
structure LkX (n : Nat) (sl : Int) (i : Nat) (x : CIn) : Prop where
 a : x.op = 4 ∨ x.op = 5 ∨ x.op = 6 ∨ x.op = 16 -> 0 <= x.a /\ x.a < sl
 tg : x.op = 19 ∨ x.op = 20 ∨ x.op = 21 -> 0 <= x.a /\ x.a < n
 arms : x.op = 27 -> x.list.length % 2 = 0 /\ ∀ j (q : 2 * j + 1 < x.list.length), 0 <= x.list[2 * j + 1] /\ x.list[2 * j + 1] < n
 pop : 0 <= ax x
 push : 0 <= au x /\ au x <= 1
theorem LkX.tY {n : Nat} {sl : Int} {i : Nat} {x : CIn} (h : LkX n sl i x) (hi : i < n) (he : ¬ (oL x.op = true /\ i + 1 = n)) : jW n i x := by
 refine ⟨h.tg, h.arms, fun h1 h2 h3 h4 => ?_⟩
 have : oL x.op = true := by simp [oL, h1, h2, h3, h4]
 have : ¬ i + 1 = n := fun e => he ⟨this, e⟩
 omega
theorem mh {L : Nat} {P : Prs} (hP : eP P) {s : Nat} (hs : vsP L P s) (op a : Int) : P <+: (past L P s op a).1 /\ eP (past L P s op a).1 /\ vsP L (past L P s op a).1 (past L P s op a).2 /\ (past L P s op a).1.length <= P.length + L := by
 unfold past
 split
 ·obtain ⟨h1, h2, h3, _, h5⟩ := fe (slot := a.toNat) (to := 2 ^ (a.toNat % 64)) (.inr rfl) L hP hs
  exact ⟨h1, h2, h3, h5⟩
 ·split
  ·obtain ⟨h1, h2, h3, _, h5⟩ := fe (slot := a.toNat) (to := 0) (.inl rfl) L hP hs
   exact ⟨h1, h2, h3, h5⟩
  ·exact ⟨List.prefix_refl _, hP, hs, Nat.le_add_right _ _⟩
theorem mZ : ∀ {ks : List Int} {p : Wy} {q : Nat × Wy}, q ∈ eX ks p -> ∃ j, ∃ (h : 2 * j + 1 < ks.length), q.1 = (ks[2 * j + 1]).toNat /\ (q.2 = p ∨ q.2 = (p.1 + 1, p.2))
 | [], _, _, h => by simp [eX] at h
 | [_], _, _, h => by simp [eX] at h
 | k :: t :: r, p, q, h => by
  rw [eX] at h
  rcases List.mem_cons.1 h with h | h
  ·subst h
   refine ⟨0, by simp, rfl, ?_⟩
   by_cases hk : k = 0
   ·exact .inr (by simp [hk])
   ·exact .inl (by simp [hk])
  ·obtain ⟨j, hj, e1, e2⟩ := mZ h
   exact ⟨j + 1, by simp; omega, e1, e2⟩
theorem mi {n i : Nat} {x : CIn} {p : Wy} (ht : jW n i x) {q : Nat × Wy} (h : q ∈ aQ i x p) : q.1 < n /\ (q.2 = p ∨ x.op = 27 /\ q.2 = (p.1 + 1, p.2)) := by
 unfold aQ at h
 split at h
 ·simp at h
 ·split at h
  ·rename_i h1 h2
   simp at h; subst h
   have := ht.a (by omega)
   exact ⟨by simp; omega, .inl rfl⟩
  ·split at h
   ·rename_i h1 h2 h3
    have := ht.a (by omega)
    have := ht.on (by omega) (by omega) (by omega) (by omega)
    simp at h
    rcases h with h | h
    ·subst h; exact ⟨by simpa using this, .inl rfl⟩
    ·subst h; exact ⟨by simp; omega, .inl rfl⟩
   ·split at h
    ·rename_i h1 h2 h3 h4
     obtain ⟨j, hj, e1, e2⟩ := mZ h
     have := (ht.arms h4).2 j hj
     refine ⟨by rw [e1]; omega, ?_⟩
     rcases e2 with e | e
     ·exact .inl e
     ·exact .inr ⟨h4, e⟩
    ·rename_i h1 h2 h3 h4
     simp at h; subst h
     exact ⟨by simpa using ht.on (by omega) (by omega) (by omega) (by omega), .inl rfl⟩
structure LkR (n L m : Nat) (s s' : Wst) : Prop where
 pre : s.P <+: s'.P
 pr : eP s'.P
 kv : Kv n L (m + 2) s'.P s'.K s'.D
 len : s'.P.length <= s.P.length + L
 mea : mea n s'.K s'.D <= mea n s.K s.D
 kl : s'.K.length = s.K.length
theorem ni {x : CIn} {p : Wy} (hl : ¬ (p.1 : Int) - 1 < ax x) (h0 : 0 <= ax x) (h : 0 <= au x /\ au x <= 1) : (abN x p : Int) = (p.1 : Int) + (au x - ax x) /\ abN x p ≠ 0 /\ abN x p <= p.1 + 1 := by
 unfold abN
 omega
theorem nk {n L m i : Nat} {sl : Int} {res : Bool} {x : CIn} {p : Wy} {s : Wst} (hx : LkX n sl i x) (hi : i < n) (hP : eP s.P) (hk : Kv n L m s.P s.K s.D) (hv : vsP L s.P p.2) (hp : p.1 <= m) : LkR n L m s (bY n res L i x p s).2 := by
 have hself : LkR n L m s s := ⟨List.prefix_refl _, hP, hk.mono (List.prefix_refl _) (by omega), by omega, Nat.le_refl _, rfl⟩
 unfold bY
 split
 ·exact hself
 ·rename_i hl
  split
  ·exact hself
  ·split
   ·exact hself
   ·split
    ·exact hself
    ·rename_i h25 hne hb
     obtain ⟨p1, p2, p3, p4⟩ := mh hP hv x.op x.a
     obtain ⟨a1, a2, a3⟩ := ni hl hx.pop hx.push
     have ht := hx.tY hi hb
     have hq : ∀ q ∈ aQ i x (abN x p, (past L s.P p.2 x.op x.a).2), q.1 < n /\ q.2.1 ≠ 0 /\ vsP L (past L s.P p.2 x.op x.a).1 q.2.2 /\ q.2.1 <= m + 2 := by
      intro q hq
      obtain ⟨t1, t2⟩ := mi ht hq
      refine ⟨t1, ?_⟩
      rcases t2 with e | ⟨_, e⟩
      ·rw [e]; exact ⟨a2, p3, by simp only; omega⟩
      ·rw [e]; exact ⟨by simp, p3, by simp only; omega⟩
     have hk2 : Kv n L (m + 2) (past L s.P p.2 x.op x.a).1 s.K s.D := hk.mono p1 (by omega)
     exact ⟨p1, p2, Kv.aC _ hk2 hq, p4, mg _ hk.kn fun q hm => ⟨(hq q hm).1, (hq q hm).2.1⟩, mf _ _ _⟩
end Go.Proofs.YtadmpgegolmkgaaDoor
