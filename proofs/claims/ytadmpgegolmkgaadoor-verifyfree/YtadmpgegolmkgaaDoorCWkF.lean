import Derived.Test.YtadmpgegolmkgaaDoorCWkE
namespace Go.Proofs.YtadmpgegolmkgaaDoor
open Go.RowKit Go.MapKept Go.ChangeMaps Go.WideShapes
set_option linter.unusedVariables false
set_option linter.unusedSimpArgs false

/-- a copy of an instruction and one of a way, in blocks of their own -/
structure LD (w X : World) (ib yb : Nat) (x : CIn) (ka : Option Addr) (kc : Nat) (p : Wy) : Prop where
  bel : Below w.heap.size w X
  ih : X.heap[ib]? = some (.cells #[.int .i64 x.op, .int .i64 x.a, .int .i64 x.b, .slice ka x.list.length kc] 43 (0, 0))
  yh : X.heap[yb]? = some (.cells #[.int .i64 (p.1 : Int), .int .u64 (p.2 : Int)] 66 (0, 0))
  ne : ib ≠ yb
  l1 : w.heap.size ≤ ib
  l2 : w.heap.size ≤ yb
theorem LD.below {w X X' : World} {ib yb : Nat} {x : CIn} {ka : Option Addr} {kc : Nat} {p : Wy} (h : LD w X ib yb x ka kc p) (hb : Below X.heap.size X X') : LD w X' ib yb x ka kc p :=
  ⟨h.bel.trans (hb.mono h.bel.size), (hb.block _ (heap_lt h.ih)).trans h.ih, (hb.block _ (heap_lt h.yh)).trans h.yh, h.ne, h.l1, h.l2⟩
theorem LD.drewN {w X : World} {ib yb : Nat} {x : CIn} {ka : Option Addr} {kc : Nat} {p : Wy} (h : LD w X ib yb x ka kc p) (k : Nat) : LD w (X.drewN k) ib yb x ka kc p := h.below (below_drewN (Below.refl _ X) k)
theorem LD.cells {w X : World} {ib yb : Nat} {x : CIn} {ka : Option Addr} {kc : Nat} {p : Wy} (h : LD w X ib yb x ka kc p) : X.cell? ⟨ib, 0, none⟩ = some (.int .i64 x.op) ∧ X.cell? ⟨ib, 1, none⟩ = some (.int .i64 x.a) ∧ X.cell? ⟨ib, 2, none⟩ = some (.int .i64 x.b) ∧ X.cell? ⟨ib, 3, none⟩ = some (.slice ka x.list.length kc) ∧ X.cell? ⟨yb, 0, none⟩ = some (.int .i64 (p.1 : Int)) ∧ X.cell? ⟨yb, 1, none⟩ = some (.int .u64 (p.2 : Int)) ∧ X.frozen? ⟨yb, 0, none⟩ = false ∧ X.frozen? ⟨yb, 1, none⟩ = false :=
  ⟨cell_blk h.ih rfl, cell_blk h.ih rfl, cell_blk h.ih rfl, cell_blk h.ih rfl, cell_blk h.yh rfl, cell_blk h.yh rfl, frz_blk h.yh, frz_blk h.yh⟩
theorem LD.one (w : World) (x : CIn) (ka : Option Addr) (kc : Nat) (p : Wy) : LD w (((w.alloc (.cells #[.int .i64 x.op, .int .i64 x.a, .int .i64 x.b, .slice ka x.list.length kc] 43)).alloc (.cells #[.int .i64 (p.1 : Int), .int .u64 (p.2 : Int)] 66)).drew) w.heap.size (w.heap.size + 1) x ka kc p := by
  obtain ⟨X, hX⟩ : ∃ X, w.alloc (.cells #[.int .i64 x.op, .int .i64 x.a, .int .i64 x.b, .slice ka x.list.length kc] 43) = X := ⟨_, rfl⟩
  have sX : X.heap.size = w.heap.size + 1 := by rw [← hX]; simp
  have qX : X.heap[w.heap.size]? = some (.cells #[.int .i64 x.op, .int .i64 x.a, .int .i64 x.b, .slice ka x.list.length kc] 43 (0, 0)) := by rw [← hX]; exact heap_newH _ _ _ rfl
  have bX : Below w.heap.size w X := by rw [← hX]; exact below1 w _
  rw [hX]
  exact ⟨(bX.alloc (by omega) _).drew, ((below1 X (.cells #[.int .i64 (p.1 : Int), .int .u64 (p.2 : Int)] 66)).block _ (by omega)).trans qX, by rw [← sX]; exact heap_newH _ _ _ rfl, by omega, Nat.le_refl _, by omega⟩
theorem LD.two (w : World) (x : CIn) (ka : Option Addr) (kc : Nat) (p : Wy) : LD w (((w.alloc (.cells #[.int .i64 (p.1 : Int), .int .u64 (p.2 : Int)] 66)).alloc (.cells #[.int .i64 x.op, .int .i64 x.a, .int .i64 x.b, .slice ka x.list.length kc] 43)).drew) (w.heap.size + 1) w.heap.size x ka kc p := by
  obtain ⟨X, hX⟩ : ∃ X, w.alloc (.cells #[.int .i64 (p.1 : Int), .int .u64 (p.2 : Int)] 66) = X := ⟨_, rfl⟩
  have sX : X.heap.size = w.heap.size + 1 := by rw [← hX]; simp
  have qX : X.heap[w.heap.size]? = some (.cells #[.int .i64 (p.1 : Int), .int .u64 (p.2 : Int)] 66 (0, 0)) := by rw [← hX]; exact heap_newH _ _ _ rfl
  have bX : Below w.heap.size w X := by rw [← hX]; exact below1 w _
  rw [hX]
  exact ⟨(bX.alloc (by omega) _).drew, by rw [← sX]; exact heap_newH _ _ _ rfl, ((below1 X (.cells #[.int .i64 x.op, .int .i64 x.a, .int .i64 x.b, .slice ka x.list.length kc] 43)).block _ (by omega)).trans qX, by omega, by omega, Nat.le_refl _⟩
/-- what stands where an instruction is looked at -/
structure LkE (w : World) (wb : Nat) (g : WG) (A : WA) (L gb : Nat) (P : Prs) (K : List Wy) (D : Nat → Bool) (B : Nat) (code : List CIn) (ca : Option Addr) (cc i : Nat) (x : CIn) (p : Wy) (res : Bool) : Prop where
  wk : WkM w wb g A L gb P K D
  a3 : A.a3 = .bool res
  a4 : A.a4 = .slice ca code.length cc
  cd : Row (InAt w B) B 4 ca cc code
  hB : WkH B wb g gb
  hBw : B ≤ w.heap.size
  len : code.length ≤ 2147483648
  hx : code[i]? = some x
  hp : K[i]? = some p
  p1 : 1 ≤ p.1
  p2 : p.1 < 4611686018427387904
  v : VW w
  wf : x.Wf
  list : x.list.length ≤ 281474976710656
theorem LkE.ins {w : World} {wb : Nat} {g : WG} {A : WA} {L gb : Nat} {P : Prs} {K : List Wy} {D : Nat → Bool} {B : Nat} {code : List CIn} {ca : Option Addr} {cc i : Nat} {x : CIn} {p : Wy} {res : Bool} (h : LkE w wb g A L gb P K D B code ca cc i x p res) : ∃ b o ka kc, ca = some ⟨b, o, none⟩ ∧ b < w.heap.size ∧ w.cell? ⟨b, o + i * 4, none⟩ = some (.int .i64 x.op) ∧ w.cell? ⟨b, o + i * 4 + 1, none⟩ = some (.int .i64 x.a) ∧ w.cell? ⟨b, o + i * 4 + 2, none⟩ = some (.int .i64 x.b) ∧ w.cell? ⟨b, o + i * 4 + 3, none⟩ = some (.slice ka x.list.length kc) ∧ IntsV w B ka kc x.list ∧ i < code.length ∧ code.length ≤ cc ∧ i < g.n := by
  obtain ⟨hil, hxe⟩ := List.getElem?_eq_some_iff.1 h.hx
  obtain ⟨b, o, hca, hbB, hat⟩ := h.cd.at_ (by omega)
  obtain ⟨ka, kc, i0, i1, i2, i3, hks⟩ := (hat i hil).ex
  rw [hxe] at i0 i1 i2 i3 hks
  have hi := (List.getElem?_eq_some_iff.1 h.hp).1
  rw [h.wk.kl] at hi
  exact ⟨b, o, ka, kc, hca, Nat.lt_of_lt_of_le hbB h.hBw, i0, i1, i2, i3, hks, hil, h.cd.cap, hi⟩
theorem LkE.pops {w : World} {wb : Nat} {g : WG} {A : WA} {L gb : Nat} {P : Prs} {K : List Wy} {D : Nat → Bool} {B : Nat} {code : List CIn} {ca : Option Addr} {cc i : Nat} {x : CIn} {p : Wy} {res : Bool} (h : LkE w wb g A L gb P K D B code ca cc i x p res) {ka : Option Addr} {kc : Nat} (hks : IntsV w B ka kc x.list) {X : World} {ib yb : Nat} (hX : LD w X ib yb x ka kc p) :
    Calls Tryd.prog 16 #[insV x ka kc] X fun e w' => e = .returned (.int .i64 (popsI x)) ∧ LD w w' ib yb x ka kc p :=
  (Pops_any X B x ka kc (h.v.below hX.bel).shp h.wf (hks.below (hX.bel.mono h.hBw)) h.list (Nat.le_trans h.hBw hX.bel.size)).mono fun e w' q => ⟨q.1, hX.below q.2⟩
theorem LkE.pushes {w : World} {wb : Nat} {g : WG} {A : WA} {L gb : Nat} {P : Prs} {K : List Wy} {D : Nat → Bool} {B : Nat} {code : List CIn} {ca : Option Addr} {cc i : Nat} {x : CIn} {p : Wy} {res : Bool} (h : LkE w wb g A L gb P K D B code ca cc i x p res) {ka : Option Addr} {kc : Nat} {X : World} {ib yb : Nat} (hX : LD w X ib yb x ka kc p) :
    Calls Tryd.prog 30 #[insV x ka kc] X fun e w' => e = .returned (.int .i64 (pushesI x)) ∧ LD w w' ib yb x ka kc p :=
  (Pushes_any X x ka kc (h.v.below hX.bel).shp h.wf).mono fun e w' q => ⟨q.1, hX.below q.2⟩
set_option maxRecDepth 100000 in
set_option maxHeartbeats 4000000 in
/-- too little on the stack -/
theorem look_less {w : World} {wb : Nat} {g : WG} {A : WA} {L gb : Nat} {P : Prs} {K : List Wy} {D : Nat → Bool} {B : Nat} {code : List CIn} {ca : Option Addr} {cc i : Nat} {x : CIn} {p : Wy} {res : Bool} (h : LkE w wb g A L gb P K D B code ca cc i x p res) (hl : (p.1 : Int) - 1 < popsI x) :
    Calls Tryd.prog 44 #[.pointer (some ⟨wb, 0, none⟩), .int .i64 (i : Int)] w fun e w' => e = .returned (.int .i64 94) ∧ Bx (Below w.heap.size w w') := by
  obtain ⟨b, o, ka, kc, rfl, hb, u0, u1, u2, u3, hks, hil, hcc, hig⟩ := h.ins
  obtain ⟨v0, v1⟩ := h.wk.known h.hp
  obtain ⟨_, _, _, c3, c4, c5, _, _⟩ := h.wk.cells
  rw [h.a3] at c3
  rw [h.a4] at c4
  have hcl := h.len
  have hp1 := h.p1
  have hp2 := h.p2
  have HP : Bx (∀ X ib yb, LD w X ib yb x ka kc p → _) := ⟨fun X ib yb hX => h.pops hks hX⟩
  have H1 : Bx _ := ⟨LD.one w x ka kc p⟩
  have H2 : Bx _ := ⟨LD.two w x ka kc p⟩
  have hiI : (i : Int) < (code.length : Int) := by omega
  have hgI : (i : Int) < (g.n : Int) := by omega
  have hkl := h.wk.lt.2.2.2.1
  have hwl := h.wk.lt.1
  clear h hks
  unfold insV at HP
  generalize popsI x = tk at *
  go_enter Tryd.func44, Tryd.ntmps44
  go_wp2
  go_region
  · clear c3 c4 c5 u0 u1 u2 u3 v0 v1
    go_wp2_with (first
      | (go_at_call 16; refine (HP.out _ _ _ H1.out).mono ?_; rintro e w2 ⟨rfl, hc2⟩; have HC2 : Bx _ := ⟨hc2⟩; clear hc2))
    obtain ⟨z0, _, _, _, z4, _, _, _⟩ := HC2.out.cells
    go_quiet (fail)
    go_wp2
    go_ret
    exact ⟨rfl, ⟨(HC2.out.drewN _).bel⟩⟩
  · clear c3 c4 c5 u0 u1 u2 u3 v0 v1
    go_wp2_with (first
      | (go_at_call 16; refine (HP.out _ _ _ H2.out).mono ?_; rintro e w2 ⟨rfl, hc2⟩; have HC2 : Bx _ := ⟨hc2⟩; clear hc2))
    obtain ⟨z0, _, _, _, z4, _, _, _⟩ := HC2.out.cells
    go_quiet (fail)
    go_wp2
    go_ret
    exact ⟨rfl, ⟨(HC2.out.drewN _).bel⟩⟩
end Go.Proofs.YtadmpgegolmkgaaDoor
namespace Go.Proofs.YtadmpgegolmkgaaDoor
open Go.RowKit Go.MapKept Go.ChangeMaps Go.WideShapes
set_option linter.unusedVariables false
set_option linter.unusedSimpArgs false

theorem LD.set0 {w X : World} {ib yb : Nat} {x : CIn} {ka : Option Addr} {kc : Nat} {p : Wy} (h : LD w X ib yb x ka kc p) (a : Nat) : LD w (X.setCell ⟨yb, 0, none⟩ (.int .i64 (a : Int))) ib yb x ka kc (a, p.2) :=
  ⟨h.bel.setCell (p := ⟨yb, 0, none⟩) h.l2 _, (Below.heap_setCell X ⟨yb, 0, none⟩ _ ib h.ne).trans h.ih, heap_setCell_same X yb 0 _ _ _ h.yh, h.ne, h.l1, h.l2⟩
theorem WkPost.of_below {w X w' : World} {wb : Nat} {g : WG} {A : WA} {L gb : Nat} {P : Prs} {K : List Wy} {D : Nat → Bool} (hb : Below w.heap.size w X) (h : WkPost X wb g A L gb P K D w') : WkPost w wb g A L gb P K D w' := WkPost.trans (Fx.of hb) (.inl rfl) h
/-- behind an instruction, and on -/
theorem LkE.rest {w : World} {wb : Nat} {g : WG} {A : WA} {L gb : Nat} {P : Prs} {K : List Wy} {D : Nat → Bool} {B : Nat} {code : List CIn} {ca : Option Addr} {cc i : Nat} {x : CIn} {p : Wy} {res : Bool} (h : LkE w wb g A L gb P K D B code ca cc i x p res) {ka : Option Addr} {kc ib yb : Nat} (hL : L < 60) (hP : P.length + L < 1099511627776) (ha : x.op = 5 ∨ x.op = 6 → 0 ≤ x.a ∧ x.a ≤ 2147483648) (hs : vsP L P p.2) (ht : TgOk g.n i x) (ab : Nat) (hab : ab < 4611686018427387904) (X : World) (hX : LD w X ib yb x ka kc (ab, p.2)) :
    Calls Tryd.prog 69 #[.pointer (some ⟨wb, 0, none⟩), .agg #[.int .i64 x.op, .int .i64 x.a, .int .i64 x.b, .slice ka x.list.length kc], .int .u64 (p.2 : Int)] X fun e w5 => e = .returned (.int .u64 ((past L P p.2 x.op x.a).2 : Int)) ∧ w5.cell? ⟨yb, 1, none⟩ = some (.int .u64 (p.2 : Int)) ∧ w5.frozen? ⟨yb, 1, none⟩ = false ∧ (w5.setCell ⟨yb, 1, none⟩ (.int .u64 ((past L P p.2 x.op x.a).2 : Int))).cell? ⟨yb, 0, none⟩ = some (.int .i64 (ab : Int)) ∧ (w5.setCell ⟨yb, 1, none⟩ (.int .u64 ((past L P p.2 x.op x.a).2 : Int))).cell? ⟨yb, 1, none⟩ = some (.int .u64 ((past L P p.2 x.op x.a).2 : Int)) ∧
      Calls Tryd.prog 70 #[.pointer (some ⟨wb, 0, none⟩), .int .i64 (i : Int), .agg #[.int .i64 (ab : Int), .int .u64 ((past L P p.2 x.op x.a).2 : Int)]] (w5.setCell ⟨yb, 1, none⟩ (.int .u64 ((past L P p.2 x.op x.a).2 : Int))) fun e w' => e = .returned (.bool (comeL (nextsI i x (ab, (past L P p.2 x.op x.a).2)) K D).1) ∧ Bx (WkPost w wb g A L gb (past L P p.2 x.op x.a).1 (comeL (nextsI i x (ab, (past L P p.2 x.op x.a).2)) K D).2.1 (comeL (nextsI i x (ab, (past L P p.2 x.op x.a).2)) K D).2.2 w') := by
  have hw := h.wk.below hX.bel
  refine (slotsPast_any X wb g A L gb P K D hw hL hP x.op x.a x.b (.slice ka x.list.length kc) ha p.2 hs).mono ?_
  rintro e w5 ⟨rfl, hb⟩
  have hpost := hb.out
  generalize past L P p.2 x.op x.a = R at *
  obtain ⟨P2, s2⟩ := R
  simp only at hpost ⊢
  have hy := hpost.own hX.yh (h.wk.own hX.l2)
  obtain ⟨bB, gb5, s5, hH5⟩ := hpost.hi h.hB (Nat.le_trans h.hBw hX.bel.size)
  obtain ⟨gb5, s5, x5, hg5⟩ := hpost
  have hgy : yb ≠ gb5 := by
    obtain ⟨gc, ss⟩ := s5.se
    obtain ⟨c, f, hgg⟩ := owns_kind ss.row gb5 rfl
    exact cells_ne hy hgg (by decide)
  have hno := h.wk.own hX.l2
  have hyo : ∀ k, wOwn wb g gb5 k → ¬ k = yb := fun k q e => by
    subst e
    rcases q with (q | q | q) | q | q
    · exact hno (.inl (.inl q))
    · exact hgy q
    · exact hno (.inl (.inr (.inr q)))
    · exact hno (.inr (.inl q))
    · exact hno (.inr (.inr q))
  have x6 : Fx (· = yb) w5 (w5.setCell ⟨yb, 1, none⟩ (.int .u64 (s2 : Int))) := Fx.set (P := (· = yb)) (p := ⟨yb, 1, none⟩) (Fx.refl _ w5) (.inl rfl) _
  have hdb : g.db < w.heap.size := h.wk.lt.2.2.2.2.1
  have s6 : WkM (w5.setCell ⟨yb, 1, none⟩ (.int .u64 (s2 : Int))) wb g A L gb5 P2 K D := s5.fx x6 hyo (by have := hX.l2; omega)
  have y6 : (w5.setCell ⟨yb, 1, none⟩ (.int .u64 (s2 : Int))).heap[yb]? = some (.cells #[.int .i64 (ab : Int), .int .u64 (s2 : Int)] 66 (0, 0)) := heap_setCell_same w5 yb 1 _ 66 (.int .u64 (s2 : Int)) hy
  refine ⟨trivial, cell_blk hy rfl, frz_blk hy, cell_blk y6 rfl, cell_blk y6 rfl, ?_⟩
  have hyl : w.heap.size ≤ yb := hX.l2
  have b6 : Below B w (w5.setCell ⟨yb, 1, none⟩ (.int .u64 (s2 : Int))) := (hX.bel.mono h.hBw).trans (bB.trans (x6.bel (by have := h.hBw; have := hX.bel.size; have := bB.size; omega) fun k hk e => by have := h.hBw; omega))
  have hH6 : WkH B wb g gb5 := fun k q => by
    rcases q with (q | q | q) | q | q
    · exact h.hB k (.inl (.inl q))
    · rcases hg5 with e | e
      · exact h.hB k (.inl (.inr (.inl (q.trans e))))
      · have := h.hBw; have := hX.bel.size; omega
    · exact h.hB k (.inl (.inr (.inr q)))
    · exact h.hB k (.inr (.inl q))
    · exact h.hB k (.inr (.inr q))
  refine (goOn_any _ wb g A L gb5 P2 K D s6 B code ca cc h.a4 ((h.cd.mono fun b o y hy he => he.below b6 (Nat.le_refl _) hy)) hH6 (Nat.le_trans h.hBw b6.size) h.len i x h.hx ht (ab, s2) hab).mono ?_
  rintro e w' ⟨rfl, hq⟩
  refine ⟨rfl, ⟨?_⟩⟩
  have xx : Fx (wOwn wb g gb) w (w5.setCell ⟨yb, 1, none⟩ (.int .u64 (s2 : Int))) := by
    have y1 : Fx (wOwn wb g gb) w w5 := (Fx.of hX.bel).trans x5
    exact ⟨x6.os.trans y1.os, x6.tape.trans y1.tape, x6.output.trans y1.output, Nat.le_trans y1.size x6.size, fun k hk hn => (x6.block k (Nat.lt_of_lt_of_le hk y1.size) (by omega)).trans (y1.block k hk hn)⟩
  exact WkPost.trans xx (by rcases hg5 with e | e; exact .inl e; exact .inr (Nat.le_trans hX.bel.size e)) hq.out
end Go.Proofs.YtadmpgegolmkgaaDoor
