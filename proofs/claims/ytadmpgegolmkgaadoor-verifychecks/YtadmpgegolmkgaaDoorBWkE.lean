import Derived.Test.YtadmpgegolmkgaaDoorBWkD
import Derived.Deep.RegionLaw
import Derived.Orders
set_option linter.unusedVariables false
set_option linter.unusedSimpArgs false
set_option maxHeartbeats 4000000
set_option maxRecDepth 100000
namespace Go.Proofs.YtadmpgegolmkgaaDoor
open Go.RowKit Go.MapKept Go.ChangeMaps Go.WideShapes
def aQ (i : Nat) (x : CIn) (p : Wy) : List (Nat × Wy) := if x.op = 25 then [] else if x.op = 19 ∨ x.op = 21 then [(x.a.toNat, p)] else if x.op = 20 then [(i + 1, p), (x.a.toNat, p)] else if x.op = 27 then eX x.list p else [(i + 1, p)]
structure jW (n i : Nat) (x : CIn) : Prop where
 a : x.op = 19 ∨ x.op = 20 ∨ x.op = 21 -> 0 <= x.a /\ x.a < n
 arms : x.op = 27 -> x.list.length % 2 = 0 /\ ∀ j (q : 2 * j + 1 < x.list.length), 0 <= x.list[2 * j + 1] /\ x.list[2 * j + 1] < n
 on : x.op ≠ 19 -> x.op ≠ 21 -> x.op ≠ 25 -> x.op ≠ 27 -> i + 1 < n
theorem eG (i : Nat) (p : Wy) (K : List Wy) (D : Nat -> Bool) : aC [(i, p)] K D = (bI K i p, aI K i p, aP K i D) := by
 rw [aC]
 cases bI K i p <;> rfl
theorem l8 (i j : Nat) (p : Wy) (K : List Wy) (D : Nat -> Bool) : aC [(i, p), (j, p)] K D = if bI K i p then (bI (aI K i p) j p, aI (aI K i p) j p, aP (aI K i p) j (aP K i D)) else (false, aI K i p, aP K i D) := by
 rw [aC, eG]
theorem vZ (w : World) (wb : Nat) (g : WG) (A : WA) (L gb : Nat) (P : Prs) (K : List Wy) (D : Nat -> Bool) (h : WkM w wb g A L gb P K D) (B : Nat) (code : List CIn) (ca : Option Addr) (cc : Nat) (hA : A.a4 = .slice ca code.length cc) (hc : Row (cu w B) B 4 ca cc code) (hB : WkH B wb g gb) (hBw : B <= w.heap.size) (hn : code.length <= 2147483648) (i : Nat) (x : CIn) (hx : code[i]? = some x) (ht : jW g.n i x) (p : Wy) (hp : p.1 < 4611686018427387904) :
  Calls Tryd.prog 70 #[.pointer (some ⟨wb, 0, none⟩), .int .i64 (i : Int), .agg #[.int .i64 (p.1 : Int), .int .u64 (p.2 : Int)]] w fun e w' => e = .returned (.bool (aC (aQ i x p) K D).1) /\ Bx (aK w wb g A L gb P (aC (aQ i x p) K D).2.1 (aC (aQ i x p) K D).2.2 w') := by
 obtain ⟨H, hH⟩ : ∃ H, w.heap.size = H := ⟨_, rfl⟩
 obtain ⟨hil, hxe⟩ := List.getElem?_eq_some_iff.1 hx
 obtain ⟨b, o, hca, hbB, hat⟩ := hc.at_ (by omega)
 obtain ⟨ka, kc, i0, i1, i2, i3, hks⟩ := (hat i hil).ex
 rw [hxe] at i0 i1 i2 i3 hks
 have hcc := hc.cap
 subst hca
 obtain ⟨w0, hw0⟩ : ∃ w0, w.alloc (.cells #[.int .i64 (p.1 : Int), .int .u64 (p.2 : Int)] 66) = w0 := ⟨_, rfl⟩
 have b0 : Below w.heap.size w w0 := by rw [← hw0]; exact ak w _
 have s0 : w0.heap.size = H + 1 := by rw [← hw0]; simp [hH]
 have q0 : w0.heap[H]? = some (wyC p) := by rw [← hw0]; exact aj _ _ _ hH
 have hcell : ∀ k, w0.cell? ⟨b, k, none⟩ = w.cell? ⟨b, k, none⟩ := fun k => World.cell?_of_block (b0.block b (by omega))
 have j0 := (hcell _).trans i0
 have j1 := (hcell _).trans i1
 have j2 := (hcell _).trans i2
 have j3 := (hcell _).trans i3
 have c4 : w0.cell? ⟨wb, 4, none⟩ = some (.slice (some ⟨b, o, none⟩) code.length cc) := by
  rw [← hA]
  exact (h.below b0).cells.2.2.2.2.1
 obtain ⟨w1, hw1⟩ : ∃ w1, w0.alloc (.cells #[.int .i64 x.op, .int .i64 x.a, .int .i64 x.b, .slice ka x.list.length kc] 43) = w1 := ⟨_, rfl⟩
 have b1 : Below w0.heap.size w0 w1 := by rw [← hw1]; exact ak w0 _
 have bw : Below w.heap.size w w1 := b0.trans (b1.mono (by omega))
 have q1 : w1.heap[H]? = some (wyC p) := (b1.block H (by omega)).trans q0
 have r1 : w1.heap[H + 1]? = some (.cells #[.int .i64 x.op, .int .i64 x.a, .int .i64 x.b, .slice ka x.list.length kc] 43 (0, 0)) := by rw [← hw1]; exact aj _ _ _ s0
 have p0 : w1.cell? ⟨H, 0, none⟩ = some (.int .i64 (p.1 : Int)) := aa q1 rfl
 have p1 : w1.cell? ⟨H, 1, none⟩ = some (.int .u64 (p.2 : Int)) := aa q1 rfl
 have n0 : w1.cell? ⟨H + 1, 0, none⟩ = some (.int .i64 x.op) := aa r1 rfl
 have n1 : w1.cell? ⟨H + 1, 1, none⟩ = some (.int .i64 x.a) := aa r1 rfl
 have n3 : w1.cell? ⟨H + 1, 3, none⟩ = some (.slice ka x.list.length kc) := aa r1 rfl
 have h1 := h.below bw
 have hxI : (i : Int) < (code.length : Int) := by omega
 have HT : Bx (∀ K' D' w', aK w1 wb g A L gb P K' D' w' -> aK w wb g A L gb P K' D' w') := ⟨fun K' D' w' q => aK.trans (Fx.of bw) (.inl rfl) q⟩
 have HF0 : Bx (aK w wb g A L gb P K D w1) := ⟨aK.refl h bw⟩
 have hBl : Below B w w1 := bw.mono hBw
 unfold aQ
 by_cases h25 : x.op = 25
 ·rw [if_pos h25]
  have b25 : (x.op == 25) = true := by simp [h25]
  clear h hc hB ht hat i0 i1 i2 i3 hks hcell b0 b1 bw q0 q1 r1 h1 hx hxe h25 hA HT hBl p0 p1
  generalize x.op = op at *
  generalize x.a = xa at *
  generalize x.b = xb at *
  go_enter Tryd.func70, Tryd.ntmps70
  go_wp2
  go_ret
  exact ⟨rfl, HF0⟩
 ·rw [if_neg h25]
  have b25 : (x.op == 25) = false := by simp [h25]
  have HCOME : ∀ t : Nat, t < g.n -> Bx _ := fun t hl => ⟨ja w1 wb g A L gb P K D h1 t hl p⟩
  by_cases h19 : x.op = 19 ∨ x.op = 21
  ·rw [if_pos h19, eG]
   obtain ⟨a0, a1⟩ := ht.a (by omega)
   obtain ⟨t, hte⟩ : ∃ t : Nat, x.a = t := ⟨x.a.toNat, by omega⟩
   have HC := HCOME t (by omega)
   rw [hte] at j1 n1 hw1 ⊢
   rw [show ((t : Int)).toNat = t by omega]
   clear HCOME h hc hB ht hat i0 i1 i2 i3 hks hcell b0 b1 bw q0 q1 r1 hx hxe hA hBl h1 HF0 h25 hte a0 a1
   rcases h19 with e | e
   ·rw [e] at n0 b25
    have b19 : (x.op == 19) = true := by simp [e]
    generalize x.op = op at *
    subst e
    generalize x.b = xb at *
    go_enter Tryd.func70, Tryd.ntmps70
    go_wp2_with (first
     | (go_at_call 41; refine HC.out.mono ?_; rintro e w3 ⟨rfl, hw⟩))
    go_ret
    exact ⟨rfl, ⟨HT.out _ _ _ hw.out⟩⟩
   ·rw [e] at n0 b25
    have b19 : (x.op == 19) = false := by simp [e]
    have b21 : (x.op == 21) = true := by simp [e]
    generalize x.op = op at *
    subst e
    generalize x.b = xb at *
    go_enter Tryd.func70, Tryd.ntmps70
    go_wp2_with (first
     | (go_at_call 41; refine HC.out.mono ?_; rintro e w3 ⟨rfl, hw⟩))
    go_ret
    exact ⟨rfl, ⟨HT.out _ _ _ hw.out⟩⟩
  ·rw [if_neg h19]
   have b19 : (x.op == 19) = false := by simp; omega
   have b21 : (x.op == 21) = false := by simp; omega
   by_cases h20 : x.op = 20
   ·rw [if_pos h20, l8]
    obtain ⟨a0, a1⟩ := ht.a (by omega)
    have hon := ht.on (by omega) (by omega) (by omega) (by omega)
    obtain ⟨t, hte⟩ : ∃ t : Nat, x.a = t := ⟨x.a.toNat, by omega⟩
    have HC := HCOME (i + 1) hon
    rw [hte] at j1 n1 hw1 ⊢
    rw [show ((t : Int)).toNat = t by omega]
    rw [show ((i + 1 : Nat) : Int) = (i : Int) + 1 by omega] at HC
    have HD : Bx (∀ w3, aK w1 wb g A L gb P (aI K (i + 1) p) (aP K (i + 1) D) w3 -> w3.cell? ⟨H, 0, none⟩ = some (.int .i64 (p.1 : Int)) /\ w3.cell? ⟨H, 1, none⟩ = some (.int .u64 (p.2 : Int)) /\ w3.cell? ⟨H + 1, 1, none⟩ = some (.int .i64 (t : Int)) /\ Calls Tryd.prog 41 #[.pointer (some ⟨wb, 0, none⟩), .int .i64 (t : Int), .agg #[.int .i64 (p.1 : Int), .int .u64 (p.2 : Int)]] w3 fun e w' => e = .returned (.bool (bI (aI K (i + 1) p) t p)) /\ Bx (aK w wb g A L gb P (aI (aI K (i + 1) p) t p) (aP (aI K (i + 1) p) t (aP K (i + 1) D)) w')) := ⟨fun w3 hq => by
     have nH := h.own (k := H) (by omega)
     have nH1 := h.own (k := H + 1) (by omega)
     have y1 := hq.own q1 nH
     have y2 := hq.own r1 nH1
     obtain ⟨gb3, s3, x3, hg3⟩ := hq
     refine ⟨aa y1 rfl, aa y1 rfl, by rw [← hte]; exact aa y2 rfl, (ja w3 wb g A L gb3 P _ _ s3 t (by omega) p).mono ?_⟩
     rintro e w' ⟨rfl, hb⟩
     exact ⟨rfl, ⟨HT.out _ _ _ (aK.trans x3 hg3 hb.out)⟩⟩⟩
    clear HCOME h hc hB ht hat i0 i1 i2 i3 hks hcell b0 b1 bw q0 q1 r1 hx hxe hA hBl h1 HF0 h25 hte a0 a1 h19
    rw [h20] at n0 b25 b19 b21
    have b20 : (x.op == 20) = true := by simp [h20]
    generalize x.op = op at *
    subst h20
    generalize x.b = xb at *
    cases hcb : bI K (i + 1) p with
    | false =>
     rw [hcb] at HC
     go_enter Tryd.func70, Tryd.ntmps70
     go_wp2_with (first
      | (go_at_call 41; refine HC.out.mono ?_; rintro e w3 ⟨rfl, hw⟩; clear HD))
     go_ret
     exact ⟨rfl, ⟨HT.out _ _ _ hw.out⟩⟩
    | true =>
     rw [hcb] at HC
     go_enter Tryd.func70, Tryd.ntmps70
     go_wp2_with (first
      | (go_at_call 41; refine HC.out.mono ?_; rintro e w3 ⟨rfl, hw⟩; obtain ⟨y0, y1, y2, HG⟩ := HD.out w3 hw.out; clear HD HC p0 p1 n1)
      | (go_at_call 41; refine HG.mono ?_; rintro e w4 ⟨rfl, hw4⟩))
     go_ret
     exact ⟨rfl, hw4⟩
   ·rw [if_neg h20]
    have b20 : (x.op == 20) = false := by simp [h20]
    by_cases h27 : x.op = 27
    ·rw [if_pos h27]
     obtain ⟨a0, a1⟩ := ht.arms h27
     have HC : Bx _ := ⟨vY w1 wb g A L gb P K D h1 B x.list ka kc (hks.below hBl) hB (by have := bw.size; omega) a0 a1 p hp⟩
     clear HCOME h hc hB ht hat i0 i1 i2 i3 hks hcell b0 b1 bw q0 q1 r1 hx hxe hA hBl h1 HF0 h25 a0 a1 h19 h20
     have b27 : (x.op == 27) = true := by simp [h27]
     generalize x.op = op at *
     generalize x.a = xa at *
     generalize x.b = xb at *
     generalize aC (eX x.list p) K D = R at *
     subst h27
     go_enter Tryd.func70, Tryd.ntmps70
     go_wp2_with (first
      | (go_at_call 84; refine HC.out.mono ?_; rintro e w3 ⟨rfl, hw⟩))
     go_ret
     exact ⟨rfl, ⟨HT.out _ _ _ hw.out⟩⟩
    ·rw [if_neg h27, eG]
     have b27 : (x.op == 27) = false := by simp [h27]
     have hon := ht.on (by omega) (by omega) (by omega) (by omega)
     have HC := HCOME (i + 1) hon
     rw [show ((i + 1 : Nat) : Int) = (i : Int) + 1 by omega] at HC
     clear HCOME h hc hB ht hat i0 i1 i2 i3 hks hcell b0 b1 bw q0 q1 r1 hx hxe hA hBl h1 HF0 h25 h19 h20 h27
     generalize x.op = op at *
     generalize x.a = xa at *
     generalize x.b = xb at *
     go_enter Tryd.func70, Tryd.ntmps70
     go_wp2_with (first
      | (go_at_call 41; refine HC.out.mono ?_; rintro e w3 ⟨rfl, hw⟩))
     go_ret
     exact ⟨rfl, ⟨HT.out _ _ _ hw.out⟩⟩
structure LD (w X : World) (ib yb : Nat) (x : CIn) (ka : Option Addr) (kc : Nat) (p : Wy) : Prop where
 bel : Below w.heap.size w X
 ih : X.heap[ib]? = some (.cells #[.int .i64 x.op, .int .i64 x.a, .int .i64 x.b, .slice ka x.list.length kc] 43 (0, 0))
 yh : X.heap[yb]? = some (.cells #[.int .i64 (p.1 : Int), .int .u64 (p.2 : Int)] 66 (0, 0))
 ne : ib ≠ yb
 l1 : w.heap.size <= ib
 l2 : w.heap.size <= yb
theorem LD.below {w X X' : World} {ib yb : Nat} {x : CIn} {ka : Option Addr} {kc : Nat} {p : Wy} (h : LD w X ib yb x ka kc p) (hb : Below X.heap.size X X') : LD w X' ib yb x ka kc p :=
 ⟨h.bel.trans (hb.mono h.bel.size), (hb.block _ (ah h.ih)).trans h.ih, (hb.block _ (ah h.yh)).trans h.yh, h.ne, h.l1, h.l2⟩
theorem LD.drewN {w X : World} {ib yb : Nat} {x : CIn} {ka : Option Addr} {kc : Nat} {p : Wy} (h : LD w X ib yb x ka kc p) (k : Nat) : LD w (X.drewN k) ib yb x ka kc p := h.below (below_drewN (Below.refl _ X) k)
theorem LD.cells {w X : World} {ib yb : Nat} {x : CIn} {ka : Option Addr} {kc : Nat} {p : Wy} (h : LD w X ib yb x ka kc p) : X.cell? ⟨ib, 0, none⟩ = some (.int .i64 x.op) /\ X.cell? ⟨ib, 1, none⟩ = some (.int .i64 x.a) /\ X.cell? ⟨ib, 2, none⟩ = some (.int .i64 x.b) /\ X.cell? ⟨ib, 3, none⟩ = some (.slice ka x.list.length kc) /\ X.cell? ⟨yb, 0, none⟩ = some (.int .i64 (p.1 : Int)) /\ X.cell? ⟨yb, 1, none⟩ = some (.int .u64 (p.2 : Int)) /\ X.frozen? ⟨yb, 0, none⟩ = false /\ X.frozen? ⟨yb, 1, none⟩ = false :=
 ⟨aa h.ih rfl, aa h.ih rfl, aa h.ih rfl, aa h.ih rfl, aa h.yh rfl, aa h.yh rfl, aL h.yh, aL h.yh⟩
theorem LD.one (w : World) (x : CIn) (ka : Option Addr) (kc : Nat) (p : Wy) : LD w (((w.alloc (.cells #[.int .i64 x.op, .int .i64 x.a, .int .i64 x.b, .slice ka x.list.length kc] 43)).alloc (.cells #[.int .i64 (p.1 : Int), .int .u64 (p.2 : Int)] 66)).drew) w.heap.size (w.heap.size + 1) x ka kc p := by
 obtain ⟨X, hX⟩ : ∃ X, w.alloc (.cells #[.int .i64 x.op, .int .i64 x.a, .int .i64 x.b, .slice ka x.list.length kc] 43) = X := ⟨_, rfl⟩
 have sX : X.heap.size = w.heap.size + 1 := by rw [← hX]; simp
 have qX : X.heap[w.heap.size]? = some (.cells #[.int .i64 x.op, .int .i64 x.a, .int .i64 x.b, .slice ka x.list.length kc] 43 (0, 0)) := by rw [← hX]; exact aj _ _ _ rfl
 have bX : Below w.heap.size w X := by rw [← hX]; exact ak w _
 rw [hX]
 exact ⟨(bX.alloc (by omega) _).drew, ((ak X (.cells #[.int .i64 (p.1 : Int), .int .u64 (p.2 : Int)] 66)).block _ (by omega)).trans qX, by rw [← sX]; exact aj _ _ _ rfl, by omega, Nat.le_refl _, by omega⟩
theorem LD.two (w : World) (x : CIn) (ka : Option Addr) (kc : Nat) (p : Wy) : LD w (((w.alloc (.cells #[.int .i64 (p.1 : Int), .int .u64 (p.2 : Int)] 66)).alloc (.cells #[.int .i64 x.op, .int .i64 x.a, .int .i64 x.b, .slice ka x.list.length kc] 43)).drew) (w.heap.size + 1) w.heap.size x ka kc p := by
 obtain ⟨X, hX⟩ : ∃ X, w.alloc (.cells #[.int .i64 (p.1 : Int), .int .u64 (p.2 : Int)] 66) = X := ⟨_, rfl⟩
 have sX : X.heap.size = w.heap.size + 1 := by rw [← hX]; simp
 have qX : X.heap[w.heap.size]? = some (.cells #[.int .i64 (p.1 : Int), .int .u64 (p.2 : Int)] 66 (0, 0)) := by rw [← hX]; exact aj _ _ _ rfl
 have bX : Below w.heap.size w X := by rw [← hX]; exact ak w _
 rw [hX]
 exact ⟨(bX.alloc (by omega) _).drew, by rw [← sX]; exact aj _ _ _ rfl, ((ak X (.cells #[.int .i64 x.op, .int .i64 x.a, .int .i64 x.b, .slice ka x.list.length kc] 43)).block _ (by omega)).trans qX, by omega, by omega, Nat.le_refl _⟩
structure LkE (w : World) (wb : Nat) (g : WG) (A : WA) (L gb : Nat) (P : Prs) (K : List Wy) (D : Nat -> Bool) (B : Nat) (code : List CIn) (ca : Option Addr) (cc i : Nat) (x : CIn) (p : Wy) (res : Bool) : Prop where
 wk : WkM w wb g A L gb P K D
 a3 : A.a3 = .bool res
 a4 : A.a4 = .slice ca code.length cc
 cd : Row (cu w B) B 4 ca cc code
 hB : WkH B wb g gb
 hBw : B <= w.heap.size
 len : code.length <= 2147483648
 hx : code[i]? = some x
 hp : K[i]? = some p
 p1 : 1 <= p.1
 p2 : p.1 < 4611686018427387904
 v : VW w
 wf : x.Wf
 list : x.list.length <= 281474976710656
theorem LkE.ins {w : World} {wb : Nat} {g : WG} {A : WA} {L gb : Nat} {P : Prs} {K : List Wy} {D : Nat -> Bool} {B : Nat} {code : List CIn} {ca : Option Addr} {cc i : Nat} {x : CIn} {p : Wy} {res : Bool} (h : LkE w wb g A L gb P K D B code ca cc i x p res) : ∃ b o ka kc, ca = some ⟨b, o, none⟩ /\ b < w.heap.size /\ w.cell? ⟨b, o + i * 4, none⟩ = some (.int .i64 x.op) /\ w.cell? ⟨b, o + i * 4 + 1, none⟩ = some (.int .i64 x.a) /\ w.cell? ⟨b, o + i * 4 + 2, none⟩ = some (.int .i64 x.b) /\ w.cell? ⟨b, o + i * 4 + 3, none⟩ = some (.slice ka x.list.length kc) /\ aF w B ka kc x.list /\ i < code.length /\ code.length <= cc /\ i < g.n := by
 obtain ⟨hil, hxe⟩ := List.getElem?_eq_some_iff.1 h.hx
 obtain ⟨b, o, hca, hbB, hat⟩ := h.cd.at_ (by omega)
 obtain ⟨ka, kc, i0, i1, i2, i3, hks⟩ := (hat i hil).ex
 rw [hxe] at i0 i1 i2 i3 hks
 have hi := (List.getElem?_eq_some_iff.1 h.hp).1
 rw [h.wk.kl] at hi
 exact ⟨b, o, ka, kc, hca, Nat.lt_of_lt_of_le hbB h.hBw, i0, i1, i2, i3, hks, hil, h.cd.cap, hi⟩
theorem LkE.iT {w : World} {wb : Nat} {g : WG} {A : WA} {L gb : Nat} {P : Prs} {K : List Wy} {D : Nat -> Bool} {B : Nat} {code : List CIn} {ca : Option Addr} {cc i : Nat} {x : CIn} {p : Wy} {res : Bool} (h : LkE w wb g A L gb P K D B code ca cc i x p res) {ka : Option Addr} {kc : Nat} (hks : aF w B ka kc x.list) {X : World} {ib yb : Nat} (hX : LD w X ib yb x ka kc p) :
  Calls Tryd.prog 16 #[aR x ka kc] X fun e w' => e = .returned (.int .i64 (ax x)) /\ LD w w' ib yb x ka kc p :=
 (nY X B x ka kc (h.v.below hX.bel).shp h.wf (hks.below (hX.bel.mono h.hBw)) h.list (Nat.le_trans h.hBw hX.bel.size)).mono fun e w' q => ⟨q.1, hX.below q.2⟩
theorem LkE.pushes {w : World} {wb : Nat} {g : WG} {A : WA} {L gb : Nat} {P : Prs} {K : List Wy} {D : Nat -> Bool} {B : Nat} {code : List CIn} {ca : Option Addr} {cc i : Nat} {x : CIn} {p : Wy} {res : Bool} (h : LkE w wb g A L gb P K D B code ca cc i x p res) {ka : Option Addr} {kc : Nat} {X : World} {ib yb : Nat} (hX : LD w X ib yb x ka kc p) :
  Calls Tryd.prog 30 #[aR x ka kc] X fun e w' => e = .returned (.int .i64 (au x)) /\ LD w w' ib yb x ka kc p :=
 (kE X x ka kc (h.v.below hX.bel).shp h.wf).mono fun e w' q => ⟨q.1, hX.below q.2⟩
theorem tN {w : World} {wb : Nat} {g : WG} {A : WA} {L gb : Nat} {P : Prs} {K : List Wy} {D : Nat -> Bool} {B : Nat} {code : List CIn} {ca : Option Addr} {cc i : Nat} {x : CIn} {p : Wy} {res : Bool} (h : LkE w wb g A L gb P K D B code ca cc i x p res) (hl : (p.1 : Int) - 1 < ax x) :
  Calls Tryd.prog 44 #[.pointer (some ⟨wb, 0, none⟩), .int .i64 (i : Int)] w fun e w' => e = .returned (.int .i64 94) /\ Bx (Below w.heap.size w w') := by
 obtain ⟨b, o, ka, kc, rfl, hb, u0, u1, u2, u3, hks, hil, hcc, hig⟩ := h.ins
 obtain ⟨v0, v1⟩ := h.wk.known h.hp
 obtain ⟨_, _, _, c3, c4, c5, _, _⟩ := h.wk.cells
 rw [h.a3] at c3
 rw [h.a4] at c4
 have hcl := h.len
 have hp1 := h.p1
 have hp2 := h.p2
 have HP : Bx (∀ X ib yb, LD w X ib yb x ka kc p -> _) := ⟨fun X ib yb hX => h.iT hks hX⟩
 have H1 : Bx _ := ⟨LD.one w x ka kc p⟩
 have H2 : Bx _ := ⟨LD.two w x ka kc p⟩
 have hiI : (i : Int) < (code.length : Int) := by omega
 have hgI : (i : Int) < (g.n : Int) := by omega
 have hkl := h.wk.lt.2.2.2.1
 have hwl := h.wk.lt.1
 clear h hks
 unfold aR at HP
 generalize ax x = tk at *
 go_enter Tryd.func44, Tryd.ntmps44
 go_wp2
 go_region
 ·clear c3 c4 c5 u0 u1 u2 u3 v0 v1
  go_wp2_with (first
   | (go_at_call 16; refine (HP.out _ _ _ H1.out).mono ?_; rintro e w2 ⟨rfl, hc2⟩; have HC2 : Bx _ := ⟨hc2⟩; clear hc2))
  obtain ⟨z0, _, _, _, z4, _, _, _⟩ := HC2.out.cells
  go_quiet (fail)
  go_wp2
  go_ret
  exact ⟨rfl, ⟨(HC2.out.drewN _).bel⟩⟩
 ·clear c3 c4 c5 u0 u1 u2 u3 v0 v1
  go_wp2_with (first
   | (go_at_call 16; refine (HP.out _ _ _ H2.out).mono ?_; rintro e w2 ⟨rfl, hc2⟩; have HC2 : Bx _ := ⟨hc2⟩; clear hc2))
  obtain ⟨z0, _, _, _, z4, _, _, _⟩ := HC2.out.cells
  go_quiet (fail)
  go_wp2
  go_ret
  exact ⟨rfl, ⟨(HC2.out.drewN _).bel⟩⟩
theorem LD.set0 {w X : World} {ib yb : Nat} {x : CIn} {ka : Option Addr} {kc : Nat} {p : Wy} (h : LD w X ib yb x ka kc p) (a : Nat) : LD w (X.setCell ⟨yb, 0, none⟩ (.int .i64 (a : Int))) ib yb x ka kc (a, p.2) :=
 ⟨h.bel.setCell (p := ⟨yb, 0, none⟩) h.l2 _, (Below.heap_setCell X ⟨yb, 0, none⟩ _ ib h.ne).trans h.ih, heap_setCell_same X yb 0 _ _ _ h.yh, h.ne, h.l1, h.l2⟩
theorem LkE.rest {w : World} {wb : Nat} {g : WG} {A : WA} {L gb : Nat} {P : Prs} {K : List Wy} {D : Nat -> Bool} {B : Nat} {code : List CIn} {ca : Option Addr} {cc i : Nat} {x : CIn} {p : Wy} {res : Bool} (h : LkE w wb g A L gb P K D B code ca cc i x p res) {ka : Option Addr} {kc ib yb : Nat} (hL : L < 60) (hP : P.length + L < 1099511627776) (ha : x.op = 5 ∨ x.op = 6 -> 0 <= x.a /\ x.a <= 2147483648) (hs : vsP L P p.2) (ht : jW g.n i x) (ab : Nat) (hab : ab < 4611686018427387904) (X : World) (hX : LD w X ib yb x ka kc (ab, p.2)) :
  Calls Tryd.prog 69 #[.pointer (some ⟨wb, 0, none⟩), .agg #[.int .i64 x.op, .int .i64 x.a, .int .i64 x.b, .slice ka x.list.length kc], .int .u64 (p.2 : Int)] X fun e w5 => e = .returned (.int .u64 ((past L P p.2 x.op x.a).2 : Int)) /\ w5.cell? ⟨yb, 1, none⟩ = some (.int .u64 (p.2 : Int)) /\ w5.frozen? ⟨yb, 1, none⟩ = false /\ (w5.setCell ⟨yb, 1, none⟩ (.int .u64 ((past L P p.2 x.op x.a).2 : Int))).cell? ⟨yb, 0, none⟩ = some (.int .i64 (ab : Int)) /\ (w5.setCell ⟨yb, 1, none⟩ (.int .u64 ((past L P p.2 x.op x.a).2 : Int))).cell? ⟨yb, 1, none⟩ = some (.int .u64 ((past L P p.2 x.op x.a).2 : Int)) /\
   Calls Tryd.prog 70 #[.pointer (some ⟨wb, 0, none⟩), .int .i64 (i : Int), .agg #[.int .i64 (ab : Int), .int .u64 ((past L P p.2 x.op x.a).2 : Int)]] (w5.setCell ⟨yb, 1, none⟩ (.int .u64 ((past L P p.2 x.op x.a).2 : Int))) fun e w' => e = .returned (.bool (aC (aQ i x (ab, (past L P p.2 x.op x.a).2)) K D).1) /\ Bx (aK w wb g A L gb (past L P p.2 x.op x.a).1 (aC (aQ i x (ab, (past L P p.2 x.op x.a).2)) K D).2.1 (aC (aQ i x (ab, (past L P p.2 x.op x.a).2)) K D).2.2 w') := by
 have hw := h.wk.below hX.bel
 refine (lM X wb g A L gb P K D hw hL hP x.op x.a x.b (.slice ka x.list.length kc) ha p.2 hs).mono ?_
 rintro e w5 ⟨rfl, hb⟩
 have hpost := hb.out
 generalize past L P p.2 x.op x.a = R at *
 obtain ⟨P2, s2⟩ := R
 simp only at hpost ⊢
 have hy := hpost.own hX.yh (h.wk.own hX.l2)
 obtain ⟨bB, gb5, s5, hH5⟩ := hpost.hi h.hB (Nat.le_trans h.hBw hX.bel.size)
 obtain ⟨gb5, s5, x5, hg5⟩ := hpost
 have hgy : yb ≠ gb5 := by
  obtain ⟨gc, ss⟩ := s5.se
  obtain ⟨c, f, hgg⟩ := bM ss.row gb5 rfl
  exact dh hy hgg (by decide)
 have hno := h.wk.own hX.l2
 have hyo : ∀ k, iJ wb g gb5 k -> ¬ k = yb := fun k q e => by
  subst e
  rcases q with (q | q | q) | q | q
  ·exact hno (.inl (.inl q))
  ·exact hgy q
  ·exact hno (.inl (.inr (.inr q)))
  ·exact hno (.inr (.inl q))
  ·exact hno (.inr (.inr q))
 have x6 : Fx (· = yb) w5 (w5.setCell ⟨yb, 1, none⟩ (.int .u64 (s2 : Int))) := Fx.set (P := (· = yb)) (p := ⟨yb, 1, none⟩) (Fx.refl _ w5) (.inl rfl) _
 have hdb : g.db < w.heap.size := h.wk.lt.2.2.2.2.1
 have s6 : WkM (w5.setCell ⟨yb, 1, none⟩ (.int .u64 (s2 : Int))) wb g A L gb5 P2 K D := s5.fx x6 hyo (by have := hX.l2; omega)
 have y6 : (w5.setCell ⟨yb, 1, none⟩ (.int .u64 (s2 : Int))).heap[yb]? = some (.cells #[.int .i64 (ab : Int), .int .u64 (s2 : Int)] 66 (0, 0)) := heap_setCell_same w5 yb 1 _ 66 (.int .u64 (s2 : Int)) hy
 refine ⟨trivial, aa hy rfl, aL hy, aa y6 rfl, aa y6 rfl, ?_⟩
 have hyl : w.heap.size <= yb := hX.l2
 have b6 : Below B w (w5.setCell ⟨yb, 1, none⟩ (.int .u64 (s2 : Int))) := (hX.bel.mono h.hBw).trans (bB.trans (x6.bel (by have := h.hBw; have := hX.bel.size; have := bB.size; omega) fun k hk e => by have := h.hBw; omega))
 have hH6 : WkH B wb g gb5 := fun k q => by
  rcases q with (q | q | q) | q | q
  ·exact h.hB k (.inl (.inl q))
  ·rcases hg5 with e | e
   ·exact h.hB k (.inl (.inr (.inl (q.trans e))))
   ·have := h.hBw; have := hX.bel.size; omega
  ·exact h.hB k (.inl (.inr (.inr q)))
  ·exact h.hB k (.inr (.inl q))
  ·exact h.hB k (.inr (.inr q))
 refine (vZ _ wb g A L gb5 P2 K D s6 B code ca cc h.a4 ((h.cd.mono fun b o y hy he => he.below b6 (Nat.le_refl _) hy)) hH6 (Nat.le_trans h.hBw b6.size) h.len i x h.hx ht (ab, s2) hab).mono ?_
 rintro e w' ⟨rfl, hq⟩
 refine ⟨rfl, ⟨?_⟩⟩
 have xx : Fx (iJ wb g gb) w (w5.setCell ⟨yb, 1, none⟩ (.int .u64 (s2 : Int))) := by
  have y1 : Fx (iJ wb g gb) w w5 := (Fx.of hX.bel).trans x5
  exact ⟨x6.os.trans y1.os, x6.tape.trans y1.tape, x6.output.trans y1.output, Nat.le_trans y1.size x6.size, fun k hk hn => (x6.block k (Nat.lt_of_lt_of_le hk y1.size) (by omega)).trans (y1.block k hk hn)⟩
 exact aK.trans xx (by rcases hg5 with e | e; exact .inl e; exact .inr (Nat.le_trans hX.bel.size e)) hq.out
end Go.Proofs.YtadmpgegolmkgaaDoor
namespace Go.Proofs.YtadmpgegolmkgaaDoor
section
variable {P : Program} {ops : Array Oper} {Q : Exit -> Act -> World -> Prop} {S : World -> Prop}
def qB (L : Array Bool) : Nat := L.toList.count false
theorem jc {L : Array Bool} {i : Nat} (h : L.getD i true = false) : qB (L.setIfInBounds i true) + 1 = qB L := by
 have hi : i < L.size := by
  rcases Nat.lt_or_ge i L.size with h' | h'
  ·exact h'
  ·rw [Array.getD_eq_getD_getElem?, Array.getElem?_eq_none h'] at h; cases h
 have he : L.toList[i]? = some false := by
  rw [Array.getD_eq_getD_getElem?, Array.getElem?_eq_getElem hi] at h
  rw [Array.getElem?_toList, Array.getElem?_eq_getElem hi]
  simpa using h
 unfold qB
 rw [Array.toList_setIfInBounds]
 have key : ∀ (l : List Bool) (i : Nat), l[i]? = some false -> (l.set i true).count false + 1 = l.count false := by
  intro l
  induction l with
  | nil => intro i h; simp at h
  | cons b r ih =>
   intro i h
   cases i with
   | zero =>
    simp at h; subst h
    simp
   | succ k =>
    simp at h
    have := ih k h
    rw [List.set_cons_succ, List.count_cons, List.count_cons]
    omega
 exact key _ _ he
def aH : List Oper -> List Value -> Act -> Act
 | o :: os, v :: vs, a => aH os vs (a.put o.dst v)
 | _, _, a => a
theorem jd (a : Act) (d : Option Tmp) (v : Value) : (a.put d v).tmps.size = a.tmps.size := by cases d <;> simp [Act.put]
theorem mX (a : Act) (d : Option Tmp) (v : Value) : (a.put d v).defers = a.defers := by cases d <;> rfl
theorem bf (a : Act) (d : Option Tmp) (v : Value) {t : Tmp} (h : d ≠ some t) : (a.put d v).tmps[t]? = a.tmps[t]? := by
 cases d with
 | none => rfl
 | some d =>
  have : d ≠ t := fun e => h (by rw [e])
  simp [Act.put, Array.getElem?_setIfInBounds_ne this]
theorem put_eq (a : Act) (v : Value) (t : Tmp) : (a.put (some t) v).tmps[t]? = if t < a.tmps.size then some v else none := by
 simp [Act.put, Array.getElem?_setIfInBounds]
theorem jF : ∀ (os : List Oper) (vs : List Value) (a : Act), (aH os vs a).tmps.size = a.tmps.size /\ (aH os vs a).defers = a.defers
 | [], _, a => ⟨rfl, rfl⟩
 | _ :: _, [], a => ⟨rfl, rfl⟩
 | o :: os, v :: vs, a => by
  obtain ⟨h1, h2⟩ := jF os vs (a.put o.dst v)
  exact ⟨h1.trans (jd _ _ _), h2.trans (mX _ _ _)⟩
theorem kr {t : Tmp} : ∀ (os : List Oper) (vs : List Value) (a : Act), (∀ o ∈ os, o.dst ≠ some t) -> (aH os vs a).tmps[t]? = a.tmps[t]?
 | [], _, a, _ => rfl
 | _ :: _, [], a, _ => rfl
 | o :: os, v :: vs, a, h => by
  show (aH os vs (a.put o.dst v)).tmps[t]? = _
  rw [kr os vs _ (fun x hx => h x (List.mem_cons_of_mem _ hx)), bf _ _ _ (h o List.mem_cons_self)]
theorem mY {t : Tmp} : ∀ (os : List Oper) (vs : List Value) (a : Act), vs.length = os.length -> os.Pairwise (fun x y => ∀ d, x.dst = some d -> y.dst ≠ some d) -> ∀ (i : Nat) (o : Oper) (v : Value), os[i]? = some o -> vs[i]? = some v -> o.dst = some t -> (aH os vs a).tmps[t]? = if t < a.tmps.size then some v else none
 | [], _, a, _, _ => fun i o v h => by simp at h
 | _ :: _, [], a, h, _ => by simp at h
 | o :: os, v :: vs, a, hl, hp => by
  intro i x y hx hy hd
  rw [List.pairwise_cons] at hp
  cases i with
  | zero =>
   simp at hx hy
   subst hx; subst hy
   show (aH os vs (a.put o.dst v)).tmps[t]? = _
   rw [kr os vs _ (fun z hz => hp.1 z hz t hd), hd, put_eq]
  | succ k =>
   simp at hx hy
   show (aH os vs (a.put o.dst v)).tmps[t]? = _
   rw [mY os vs (a.put o.dst v) (by simpa using hl) hp.2 k x y hx hy hd, jd]
def fJ (P : Program) (ops : Array Oper) (S : World -> Prop) (F : Act) (o : Oper) (v : Value) : Prop :=
 (Region.wanted o (yielded ops F.tmps) = true /\ ∀ w, S w -> (execOp F.eval o).run P w = .ok (.value v) w) ∨
 (Region.wanted o (yielded ops F.tmps) = false /\ v = undef) ∨
 (Region.wanted o (yielded ops F.tmps) = true /\ ∀ w, S w -> ∃ f args, (execOp F.eval o).run P w = .ok (.enter f args) w /\ Calls P f args w fun e w' => e = .returned v /\ S w')
def dZ (P : Program) (ops : Array Oper) (S : World -> Prop) (F : Act) : List Oper -> List Value -> Prop
 | o :: os, v :: vs => fJ P ops S F o v /\ dZ P ops S F os vs
 | [], [] => True
 | _, _ => False
theorem dZ.len {F : Act} : ∀ {os : List Oper} {vs : List Value}, dZ P ops S F os vs -> vs.length = os.length
 | [], [], _ => rfl
 | [], _ :: _, h => h.elim
 | _ :: _, [], h => h.elim
 | _ :: os, _ :: vs, h => by simp [dZ.len h.2]
theorem dZ.at_ {F : Act} : ∀ {os : List Oper} {vs : List Value}, dZ P ops S F os vs -> ∀ (i : Nat) (o : Oper), os[i]? = some o -> ∃ v, vs[i]? = some v /\ fJ P ops S F o v
 | [], [], _ => fun i o h => by simp at h
 | [], _ :: _, h => h.elim
 | _ :: _, [], h => h.elim
 | _ :: os, v :: vs, h => by
  intro i o hi
  cases i with
  | zero => simp at hi; subst hi; exact ⟨v, rfl, h.1⟩
  | succ k => simp at hi; simpa using dZ.at_ h.2 k o hi
def fK (ops : Array Oper) : Bool :=
 Region.noSelect ops &&
 (List.range ops.size).all fun i => match ops[i]? with
  | none => true
  | some o => (o.after.all fun e => decide (e.on < i)) && (List.range ops.size).all fun j => match ops[j]? with
   | none => true
   | some oj => match oj.dst with
    | none => true
    | some d => (!(o.looksAt ops).contains d || o.after.any fun e => e.on == j && Region.binds .any e) && (i == j || o.dst != some d)
theorem fG (h : fK ops = true) {i : Nat} {o : Oper} (hi : ops[i]? = some o) :
  (∀ e ∈ o.after, e.on < i) /\ ∀ (j : Nat) (oj : Oper) (d : Tmp), ops[j]? = some oj -> oj.dst = some d ->
   (d ∈ o.looksAt ops -> ∃ e ∈ o.after, e.on = j /\ Region.binds .any e = true) /\ (i ≠ j -> o.dst ≠ some d) := by
 unfold fK at h
 rw [Bool.and_eq_true] at h
 have h2 := List.all_eq_true.1 h.2 i (by simpa using (Array.getElem?_eq_some_iff.1 hi).1)
 simp only [hi] at h2
 rw [Bool.and_eq_true] at h2
 refine ⟨fun e he => by simpa using Array.all_eq_true'.1 h2.1 e he, fun j oj d hj hd => ?_⟩
 have h3 := List.all_eq_true.1 h2.2 j (by simpa using (Array.getElem?_eq_some_iff.1 hj).1)
 simp only [hj, hd] at h3
 rw [Bool.and_eq_true] at h3
 refine ⟨fun hm => ?_, fun hne => ?_⟩
 ·rcases Bool.or_eq_true _ _ ▸ h3.1 with h4 | h4
  ·simp [hm] at h4
  ·rw [Array.any_eq_true'] at h4
   obtain ⟨e, he, h5⟩ := h4
   rw [Bool.and_eq_true] at h5
   exact ⟨e, he, by simpa using h5.1, h5.2⟩
 ·rcases Bool.or_eq_true _ _ ▸ h3.2 with h4 | h4
  ·exact absurd (by simpa using h4) hne
  ·simpa using h4
theorem wm {L : Array Bool} (hL : L.size = ops.size) (hdown : ∀ (i : Nat) (o : Oper), ops[i]? = some o -> ∀ e ∈ o.after, e.on < i) (hr : Region.ready .any ops L = []) : ∀ i, i < ops.size -> L.getD i false = true := by
 intro i
 induction i using Nat.strongRecOn with
 | ind i ih =>
  intro hi
  cases h : L.getD i false with
  | true => rfl
  | false =>
   have hmem : i ∈ Region.ready .any ops L := by
    refine mem_ready.2 ⟨?_, ops[i], Array.getElem?_eq_getElem hi, fun e he _ => ?_⟩
    ·rw [Array.getD_eq_getD_getElem?, Array.getElem?_eq_getElem (by omega)] at h ⊢
     exact h
    ·have := hdown i ops[i] (Array.getElem?_eq_getElem hi) e he
     exact ih e.on this (by omega)
   rw [hr] at hmem
   cases hmem
structure Agr (ops : Array Oper) (F : Act) (L : Array Bool) (a : Act) : Prop where
 def_ : a.defers = F.defers
 size : a.tmps.size = F.tmps.size
 get : ∀ t, (∀ (j : Nat) (o : Oper), ops[j]? = some o -> o.dst = some t -> L.getD j false = true) -> a.tmps[t]? = F.tmps[t]?
theorem Agr.eval {F : Act} {L : Array Bool} {a : Act} (h : Agr ops F L a) (hok : fK ops = true) {i : Nat} {o : Oper} (hi : ops[i]? = some o) (hall : ∀ e ∈ o.after, Region.binds .any e = true -> L.getD e.on false = true) :
  ∀ t ∈ o.looksAt ops, a.tmps[t]? = F.tmps[t]? := by
 intro t ht
 refine h.get t (fun j oj hj hd => ?_)
 obtain ⟨e, he, h1, h2⟩ := ((fG hok hi).2 j oj t hj hd).1 ht
 rw [← h1]
 exact hall e he h2
theorem tO {F a : Act} {o : Oper} (hs : ∀ cs b, o.op ≠ .select cs b) (h : ∀ t ∈ o.looksAt ops, a.tmps[t]? = F.tmps[t]?) : execOp a.eval o = execOp F.eval o := by
 refine execOp_congr o hs (fun x hx => ?_)
 cases x with
 | tmp t =>
  have : t ∈ o.looksAt ops := List.mem_append_left _ (List.mem_filterMap.2 ⟨.tmp t, by simpa using hx, rfl⟩)
  simp only [Act.eval, Array.getD_eq_getD_getElem?, h t this]
 | _ => rfl
theorem tQ {F a : Act} {o : Oper} (h : ∀ t ∈ o.looksAt ops, a.tmps[t]? = F.tmps[t]?) : Region.wanted o (yielded ops a.tmps) = Region.wanted o (yielded ops F.tmps) := by
 unfold Region.wanted
 cases hg : o.guard with
 | none => rfl
 | some gw =>
  obtain ⟨g, want⟩ := gw
  have : yielded ops a.tmps g = yielded ops F.tmps g := by
   unfold yielded
   cases ht : (ops[g]?).bind (·.dst) with
   | none => rfl
   | some t => simp only [Option.bind_some, h t (by simp [Oper.looksAt, hg, ht])]
  simp only [this]
theorem Agr.put {F : Act} {L : Array Bool} {a : Act} (h : Agr ops F L a) (hok : fK ops = true) {i : Nat} {o : Oper} (hi : ops[i]? = some o) (hL : L.size = ops.size) {v : Value} (hv : ∀ t, o.dst = some t -> F.tmps[t]? = if t < F.tmps.size then some v else none) :
  Agr ops F (L.setIfInBounds i true) (a.put o.dst v) := by
 refine ⟨(mX _ _ _).trans h.def_, (jd _ _ _).trans h.size, fun t ht => ?_⟩
 by_cases hd : o.dst = some t
 ·rw [hv t hd, hd, put_eq, h.size]
 ·rw [bf _ _ _ hd]
  refine h.get t (fun j oj hj hdj => ?_)
  have := ht j oj hj hdj
  by_cases hji : i = j
  ·subst hji
   rw [hi] at hj
   cases hj
   exact absurd hdj hd
  ·rw [getD_set_ne false hji] at this
   exact this
theorem wo {F : Act} (hok : fK ops = true)
  (hstep : ∀ (i : Nat) (o : Oper), ops[i]? = some o -> ∃ v, fJ P ops S F o v /\ ∀ t, o.dst = some t -> F.tmps[t]? = if t < F.tmps.size then some v else none)
  (hend : ∀ w, S w -> Q .normal F w) : ∀ (fuel : Nat) (L : Array Bool) (a : Act) (w : World), qB L <= fuel -> L.size = ops.size -> Agr ops F L a -> S w -> wpAny P .any ops Q fuel L a w := by
 have hfin : ∀ (L : Array Bool) (a : Act) (w : World), L.size = ops.size -> Agr ops F L a -> S w -> Region.ready .any ops L = [] -> Q .normal a w := by
  intro L a w hL hA hS hr
  have hon := wm hL (fun i o hi => (fG hok hi).1) hr
  have : a = F := by
   have h1 : a.tmps = F.tmps := Array.ext_getElem? (fun t => hA.get t (fun j o hj _ => hon j (Array.getElem?_eq_some_iff.1 hj).1))
   cases a; cases F
   simp only at h1
   have h2 := hA.def_
   simp only at h2
   rw [h1, h2]
  rw [this]
  exact hend w hS
 have hns : Region.noSelect ops = true := by
  unfold fK at hok
  rw [Bool.and_eq_true] at hok
  exact hok.1
 intro fuel
 induction fuel with
 | zero =>
  intro L a w hf hL hA hS
  have hr : Region.ready .any ops L = [] := by
   rw [List.eq_nil_iff_forall_not_mem]
   intro i hi
   obtain ⟨hu, _⟩ := mem_ready.1 hi
   have := jc hu
   omega
  exact ⟨hr, hfin L a w hL hA hS hr⟩
 | succ fuel ih =>
  intro L a w hf hL hA hS
  refine ⟨fun hr => hfin L a w hL hA hS hr, fun i hi => ?_⟩
  obtain ⟨hu, o, ho, hall⟩ := mem_ready.1 hi
  obtain ⟨v, hst, hv⟩ := hstep i o ho
  have hlook := hA.eval hok ho hall
  have he := tO (fun cs b => Region.noSelect_spec hns i o cs b ho) hlook
  have hw := tQ hlook
  have hnext : ∀ w', S w' -> wpAny P .any ops Q fuel (L.setIfInBounds i true) (a.put o.dst v) w' := fun w' hS' => ih _ _ _ (by have := jc hu; omega) (by simpa using hL) (hA.put hok ho hL hv) hS'
  unfold wpOp
  simp only [ho]
  rw [hw]
  rcases hst with ⟨h1, h2⟩ | ⟨h1, rfl⟩ | ⟨h1, h2⟩
  ·rw [if_pos h1]
   refine .inl ?_
   unfold Oper.wp
   rw [he, h2 w hS]
   exact hnext w hS
  ·rw [if_neg (by rw [h1]; decide)]
   exact hnext w hS
  ·rw [if_pos h1]
   refine .inl ?_
   unfold Oper.wp
   obtain ⟨f, args, h3, h4⟩ := h2 w hS
   rw [he, h3, Oper.upon_enter]
   refine Calls.mono h4 ?_
   rintro e w' ⟨rfl, h5⟩
   exact hnext w' h5
theorem oJ {id : Nat} {a : Act} {w : World} (vs : List Value) (S : World -> Prop) (hm : P.follows .mixedOrders = true) (hok : fK ops = true) (hS : S w.drew)
  {F : Act} (hF : aH ops.toList vs a = F) (hall : dZ P ops S F ops.toList vs) (hend : ∀ w', S w' -> Q .normal F w') : (Code.region id ops true).wp P Q a w := by
 have hpw : ops.toList.Pairwise (fun x y => ∀ d, x.dst = some d -> y.dst ≠ some d) := by
  rw [List.pairwise_iff_getElem]
  intro i j hi hj hij d h1 h2
  have hi' : ops[i]? = some (ops.toList[i]) := by rw [← Array.getElem?_toList]; exact List.getElem?_eq_getElem hi
  have hj' : ops[j]? = some (ops.toList[j]) := by rw [← Array.getElem?_toList]; exact List.getElem?_eq_getElem hj
  exact ((fG hok hj').2 i _ d hi' h1).2 (by omega) h2
 obtain ⟨hs1, hs2⟩ := jF ops.toList vs a
 refine wp_region_any hm (wo (F := F) (S := S) hok (fun i o hi => ?_) hend ops.size _ a _ ?_ (by simp) ?_ hS)
 ·obtain ⟨v, hv, hst⟩ := hall.at_ i o (by rw [Array.getElem?_toList]; exact hi)
  refine ⟨v, hst, fun t ht => ?_⟩
  have := mY ops.toList vs a hall.len hpw i o v (by rw [Array.getElem?_toList]; exact hi) hv ht
  rw [← hF, this, hs1]
 ·unfold qB
  refine Nat.le_trans List.count_le_length ?_
  simp
 ·refine ⟨by rw [← hF, hs2], by rw [← hF, hs1], fun t ht => ?_⟩
  rw [← hF]
  refine (kr ops.toList vs a (fun o ho hd => ?_)).symm
  obtain ⟨j, hj⟩ := List.getElem?_of_mem ho
  rw [Array.getElem?_toList] at hj
  have := ht j o hj hd
  have hlt := (Array.getElem?_eq_some_iff.1 hj).1
  simp [hlt] at this
theorem aM {l : List Oper} {id : Nat} {a : Act} {w : World} (vs : List Value) (S : World -> Prop) (hm : P.follows .mixedOrders = true) (hok : fK l.toArray = true) (hS : S w.drew)
  {F : Act} (hF : aH l vs a = F) (hall : dZ P l.toArray S F l vs) (hend : ∀ w', S w' -> Q .normal F w') : (Code.region id l.toArray true).wp P Q a w :=
 oJ vs S hm hok hS (by simpa using hF) (by simpa using hall) hend
theorem af {F : Act} {o : Oper} {os : List Oper} {v : Value} {vs : List Value} (h1 : fJ P ops S F o v) (h2 : dZ P ops S F os vs) : dZ P ops S F (o :: os) (v :: vs) := ⟨h1, h2⟩
theorem bD {F : Act} : dZ P ops S F [] [] := trivial
theorem ag {F : Act} {o : Oper} {v : Value} (hw : Region.wanted o (yielded ops F.tmps) = true) (h : ∀ w, S w -> (execOp F.eval o).run P w = .ok (.value v) w) : fJ P ops S F o v := .inl ⟨hw, h⟩
theorem ay {F : Act} {o : Oper} (hw : Region.wanted o (yielded ops F.tmps) = false) : fJ P ops S F o undef := .inr (.inl ⟨hw, rfl⟩)
theorem bE {F : Act} {o : Oper} {v : Value} (f : FuncId) (args : Array Value) (hw : Region.wanted o (yielded ops F.tmps) = true) (h : ∀ w, S w -> (execOp F.eval o).run P w = .ok (.enter f args) w) (hc : ∀ w, S w -> Calls P f args w fun e w' => e = .returned v /\ S w') : fJ P ops S F o v := .inr (.inr ⟨hw, fun w hS => ⟨f, args, h w hS, hc w hS⟩⟩)
end
end Go.Proofs.YtadmpgegolmkgaaDoor
namespace Go.Proofs.YtadmpgegolmkgaaDoor
theorem oK : ∀ (os : List Oper) (vs : List Value) (t0 : Nat) (tl : List Value) (df : List Deferred), os.map (·.dst) = (List.range' t0 os.length).map some -> vs.length = os.length -> t0 + os.length <= tl.length ->
  aH os vs ⟨tl.toArray, df⟩ = ⟨(tl.take t0 ++ (vs ++ tl.drop (t0 + os.length))).toArray, df⟩
 | [], vs, t0, tl, df, _, h2, h3 => by
  obtain rfl : vs = [] := List.eq_nil_of_length_eq_zero (by simpa using h2)
  simp [aH]
 | o :: os, [], t0, tl, df, _, h2, h3 => by simp at h2
 | o :: os, v :: vs, t0, tl, df, h1, h2, h3 => by
  rw [List.length_cons, List.range'_succ, List.map_cons, List.map_cons, List.cons.injEq] at h1
  simp only [List.length_cons] at h2 h3
  have hd : o.dst = some t0 := h1.1
  have ht : t0 < tl.length := by omega
  show aH os vs (Act.put ⟨tl.toArray, df⟩ o.dst v) = _
  rw [hd]
  show aH os vs ⟨tl.toArray.setIfInBounds t0 v, df⟩ = _
  rw [List.setIfInBounds_toArray, oK os vs (t0 + 1) (tl.set t0 v) df h1.2 (by omega) (by rw [List.length_set]; omega)]
  have e1 : (tl.set t0 v).take (t0 + 1) = tl.take t0 ++ [v] := by
   rw [List.take_succ_eq_append_getElem (by rw [List.length_set]; exact ht), List.getElem_set_self, List.take_set_of_le (Nat.le_refl _)]
  have e2 : (tl.set t0 v).drop (t0 + 1 + os.length) = tl.drop (t0 + (os.length + 1)) := by
   rw [List.drop_set_of_lt (by omega), show t0 + 1 + os.length = t0 + (os.length + 1) by omega]
  rw [e1, e2]
  simp
theorem kK : ∀ (m : Nat) (l : List Oper) (vs : List Value) (a : Act), vs.length = l.length -> aH l vs a = aH (l.drop m) (vs.drop m) (aH (l.take m) (vs.take m) a)
 | 0, l, vs, a, _ => rfl
 | m + 1, [], vs, a, h => by
  obtain rfl : vs = [] := List.eq_nil_of_length_eq_zero (by simpa using h)
  rfl
 | m + 1, o :: l, [], a, h => by simp at h
 | m + 1, o :: l, v :: vs, a, h => by
  show aH l vs (a.put o.dst v) = aH (l.drop m) (vs.drop m) (aH (l.take m) (vs.take m) (a.put o.dst v))
  exact kK m l vs _ (by simpa using h)
theorem dG {l : List Oper} {vs : List Value} {tl : List Value} {df : List Deferred} {F : Act} (t0 m : Nat) (h1 : (l.take m).map (·.dst) = (List.range' t0 m).map some) (h2 : vs.length = l.length) (h3 : m <= l.length) (h4 : t0 + m <= tl.length)
  (h5 : aH (l.drop m) (vs.drop m) ⟨(tl.take t0 ++ (vs.take m ++ tl.drop (t0 + m))).toArray, df⟩ = F) : aH l vs ⟨tl.toArray, df⟩ = F := by
 have e : (l.take m).length = m := by rw [List.length_take]; omega
 rw [kK m l vs _ h2, oK (l.take m) (vs.take m) t0 tl df (by rw [e]; exact h1) (by rw [List.length_take, List.length_take]; omega) (by rw [e]; exact h4), e]
 exact h5
end Go.Proofs.YtadmpgegolmkgaaDoor
