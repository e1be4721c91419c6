import Derived.Test.YtadmpgegolmkgaaDoorCWkD
namespace Go.Proofs.YtadmpgegolmkgaaDoor
open Go.RowKit Go.MapKept Go.ChangeMaps Go.WideShapes
set_option linter.unusedVariables false
set_option linter.unusedSimpArgs false

/-- with what an instruction goes on -/
def nextsI (i : Nat) (x : CIn) (p : Wy) : List (Nat × Wy) := if x.op = 25 then [] else if x.op = 19 ∨ x.op = 21 then [(x.a.toNat, p)] else if x.op = 20 then [(i + 1, p), (x.a.toNat, p)] else if x.op = 27 then armW x.list p else [(i + 1, p)]
structure TgOk (n i : Nat) (x : CIn) : Prop where
  a : x.op = 19 ∨ x.op = 20 ∨ x.op = 21 → 0 ≤ x.a ∧ x.a < n
  arms : x.op = 27 → x.list.length % 2 = 0 ∧ ∀ j (q : 2 * j + 1 < x.list.length), 0 ≤ x.list[2 * j + 1] ∧ x.list[2 * j + 1] < n
  on : x.op ≠ 19 → x.op ≠ 21 → x.op ≠ 25 → x.op ≠ 27 → i + 1 < n
theorem comeL_one (i : Nat) (p : Wy) (K : List Wy) (D : Nat → Bool) : comeL [(i, p)] K D = (comeB K i p, comeK K i p, comeD K i D) := by
  rw [comeL]
  cases comeB K i p <;> rfl
theorem comeL_two (i j : Nat) (p : Wy) (K : List Wy) (D : Nat → Bool) : comeL [(i, p), (j, p)] K D = if comeB K i p then (comeB (comeK K i p) j p, comeK (comeK K i p) j p, comeD (comeK K i p) j (comeD K i D)) else (false, comeK K i p, comeD K i D) := by
  rw [comeL, comeL_one]
set_option maxRecDepth 100000 in
set_option maxHeartbeats 2000000 in
theorem goOn_any (w : World) (wb : Nat) (g : WG) (A : WA) (L gb : Nat) (P : Prs) (K : List Wy) (D : Nat → Bool) (h : WkM w wb g A L gb P K D) (B : Nat) (code : List CIn) (ca : Option Addr) (cc : Nat) (hA : A.a4 = .slice ca code.length cc) (hc : Row (InAt w B) B 4 ca cc code) (hB : WkH B wb g gb) (hBw : B ≤ w.heap.size) (hn : code.length ≤ 2147483648) (i : Nat) (x : CIn) (hx : code[i]? = some x) (ht : TgOk g.n i x) (p : Wy) (hp : p.1 < 4611686018427387904) :
    Calls Tryd.prog 70 #[.pointer (some ⟨wb, 0, none⟩), .int .i64 (i : Int), .agg #[.int .i64 (p.1 : Int), .int .u64 (p.2 : Int)]] w fun e w' => e = .returned (.bool (comeL (nextsI i x p) K D).1) ∧ Bx (WkPost w wb g A L gb P (comeL (nextsI i x p) K D).2.1 (comeL (nextsI i x p) K D).2.2 w') := by
  obtain ⟨H, hH⟩ : ∃ H, w.heap.size = H := ⟨_, rfl⟩
  obtain ⟨hil, hxe⟩ := List.getElem?_eq_some_iff.1 hx
  obtain ⟨b, o, hca, hbB, hat⟩ := hc.at_ (by omega)
  obtain ⟨ka, kc, i0, i1, i2, i3, hks⟩ := (hat i hil).ex
  rw [hxe] at i0 i1 i2 i3 hks
  have hcc := hc.cap
  subst hca
  obtain ⟨w0, hw0⟩ : ∃ w0, w.alloc (.cells #[.int .i64 (p.1 : Int), .int .u64 (p.2 : Int)] 66) = w0 := ⟨_, rfl⟩
  have b0 : Below w.heap.size w w0 := by rw [← hw0]; exact below1 w _
  have s0 : w0.heap.size = H + 1 := by rw [← hw0]; simp [hH]
  have q0 : w0.heap[H]? = some (wyC p) := by rw [← hw0]; exact heap_newH _ _ _ hH
  have hcell : ∀ k, w0.cell? ⟨b, k, none⟩ = w.cell? ⟨b, k, none⟩ := fun k => World.cell?_of_block (b0.block b (by omega))
  have j0 := (hcell _).trans i0
  have j1 := (hcell _).trans i1
  have j2 := (hcell _).trans i2
  have j3 := (hcell _).trans i3
  have c4 : w0.cell? ⟨wb, 4, none⟩ = some (.slice (some ⟨b, o, none⟩) code.length cc) := by
    rw [← hA]
    exact (h.below b0).cells.2.2.2.2.1
  obtain ⟨w1, hw1⟩ : ∃ w1, w0.alloc (.cells #[.int .i64 x.op, .int .i64 x.a, .int .i64 x.b, .slice ka x.list.length kc] 43) = w1 := ⟨_, rfl⟩
  have b1 : Below w0.heap.size w0 w1 := by rw [← hw1]; exact below1 w0 _
  have bw : Below w.heap.size w w1 := b0.trans (b1.mono (by omega))
  have q1 : w1.heap[H]? = some (wyC p) := (b1.block H (by omega)).trans q0
  have r1 : w1.heap[H + 1]? = some (.cells #[.int .i64 x.op, .int .i64 x.a, .int .i64 x.b, .slice ka x.list.length kc] 43 (0, 0)) := by rw [← hw1]; exact heap_newH _ _ _ s0
  have p0 : w1.cell? ⟨H, 0, none⟩ = some (.int .i64 (p.1 : Int)) := cell_blk q1 rfl
  have p1 : w1.cell? ⟨H, 1, none⟩ = some (.int .u64 (p.2 : Int)) := cell_blk q1 rfl
  have n0 : w1.cell? ⟨H + 1, 0, none⟩ = some (.int .i64 x.op) := cell_blk r1 rfl
  have n1 : w1.cell? ⟨H + 1, 1, none⟩ = some (.int .i64 x.a) := cell_blk r1 rfl
  have n3 : w1.cell? ⟨H + 1, 3, none⟩ = some (.slice ka x.list.length kc) := cell_blk r1 rfl
  have h1 := h.below bw
  have hxI : (i : Int) < (code.length : Int) := by omega
  have HT : Bx (∀ K' D' w', WkPost w1 wb g A L gb P K' D' w' → WkPost w wb g A L gb P K' D' w') := ⟨fun K' D' w' q => WkPost.trans (Fx.of bw) (.inl rfl) q⟩
  have HF0 : Bx (WkPost w wb g A L gb P K D w1) := ⟨WkPost.refl h bw⟩
  have hBl : Below B w w1 := bw.mono hBw
  unfold nextsI
  by_cases h25 : x.op = 25
  · rw [if_pos h25]
    have b25 : (x.op == 25) = true := by simp [h25]
    clear h hc hB ht hat i0 i1 i2 i3 hks hcell b0 b1 bw q0 q1 r1 h1 hx hxe h25 hA HT hBl p0 p1
    generalize x.op = op at *
    generalize x.a = xa at *
    generalize x.b = xb at *
    go_enter Tryd.func70, Tryd.ntmps70
    go_wp2
    go_ret
    exact ⟨rfl, HF0⟩
  · rw [if_neg h25]
    have b25 : (x.op == 25) = false := by simp [h25]
    have HCOME : ∀ t : Nat, t < g.n → Bx _ := fun t hl => ⟨come_any w1 wb g A L gb P K D h1 t hl p⟩
    by_cases h19 : x.op = 19 ∨ x.op = 21
    · rw [if_pos h19, comeL_one]
      obtain ⟨a0, a1⟩ := ht.a (by omega)
      obtain ⟨t, hte⟩ : ∃ t : Nat, x.a = t := ⟨x.a.toNat, by omega⟩
      have HC := HCOME t (by omega)
      rw [hte] at j1 n1 hw1 ⊢
      rw [show ((t : Int)).toNat = t by omega]
      clear HCOME h hc hB ht hat i0 i1 i2 i3 hks hcell b0 b1 bw q0 q1 r1 hx hxe hA hBl h1 HF0 h25 hte a0 a1
      rcases h19 with e | e
      · rw [e] at n0 b25
        have b19 : (x.op == 19) = true := by simp [e]
        generalize x.op = op at *
        subst e
        generalize x.b = xb at *
        go_enter Tryd.func70, Tryd.ntmps70
        go_wp2_with (first
          | (go_at_call 41; refine HC.out.mono ?_; rintro e w3 ⟨rfl, hw⟩))
        go_ret
        exact ⟨rfl, ⟨HT.out _ _ _ hw.out⟩⟩
      · rw [e] at n0 b25
        have b19 : (x.op == 19) = false := by simp [e]
        have b21 : (x.op == 21) = true := by simp [e]
        generalize x.op = op at *
        subst e
        generalize x.b = xb at *
        go_enter Tryd.func70, Tryd.ntmps70
        go_wp2_with (first
          | (go_at_call 41; refine HC.out.mono ?_; rintro e w3 ⟨rfl, hw⟩))
        go_ret
        exact ⟨rfl, ⟨HT.out _ _ _ hw.out⟩⟩
    · rw [if_neg h19]
      have b19 : (x.op == 19) = false := by simp; omega
      have b21 : (x.op == 21) = false := by simp; omega
      by_cases h20 : x.op = 20
      · rw [if_pos h20, comeL_two]
        obtain ⟨a0, a1⟩ := ht.a (by omega)
        have hon := ht.on (by omega) (by omega) (by omega) (by omega)
        obtain ⟨t, hte⟩ : ∃ t : Nat, x.a = t := ⟨x.a.toNat, by omega⟩
        have HC := HCOME (i + 1) hon
        rw [hte] at j1 n1 hw1 ⊢
        rw [show ((t : Int)).toNat = t by omega]
        rw [show ((i + 1 : Nat) : Int) = (i : Int) + 1 by omega] at HC
        have HD : Bx (∀ w3, WkPost w1 wb g A L gb P (comeK K (i + 1) p) (comeD K (i + 1) D) w3 → w3.cell? ⟨H, 0, none⟩ = some (.int .i64 (p.1 : Int)) ∧ w3.cell? ⟨H, 1, none⟩ = some (.int .u64 (p.2 : Int)) ∧ w3.cell? ⟨H + 1, 1, none⟩ = some (.int .i64 (t : Int)) ∧ Calls Tryd.prog 41 #[.pointer (some ⟨wb, 0, none⟩), .int .i64 (t : Int), .agg #[.int .i64 (p.1 : Int), .int .u64 (p.2 : Int)]] w3 fun e w' => e = .returned (.bool (comeB (comeK K (i + 1) p) t p)) ∧ Bx (WkPost w wb g A L gb P (comeK (comeK K (i + 1) p) t p) (comeD (comeK K (i + 1) p) t (comeD K (i + 1) D)) w')) := ⟨fun w3 hq => by
          have nH := h.own (k := H) (by omega)
          have nH1 := h.own (k := H + 1) (by omega)
          have y1 := hq.own q1 nH
          have y2 := hq.own r1 nH1
          obtain ⟨gb3, s3, x3, hg3⟩ := hq
          refine ⟨cell_blk y1 rfl, cell_blk y1 rfl, by rw [← hte]; exact cell_blk y2 rfl, (come_any w3 wb g A L gb3 P _ _ s3 t (by omega) p).mono ?_⟩
          rintro e w' ⟨rfl, hb⟩
          exact ⟨rfl, ⟨HT.out _ _ _ (WkPost.trans x3 hg3 hb.out)⟩⟩⟩
        clear HCOME h hc hB ht hat i0 i1 i2 i3 hks hcell b0 b1 bw q0 q1 r1 hx hxe hA hBl h1 HF0 h25 hte a0 a1 h19
        rw [h20] at n0 b25 b19 b21
        have b20 : (x.op == 20) = true := by simp [h20]
        generalize x.op = op at *
        subst h20
        generalize x.b = xb at *
        cases hcb : comeB K (i + 1) p with
        | false =>
          rw [hcb] at HC
          go_enter Tryd.func70, Tryd.ntmps70
          go_wp2_with (first
            | (go_at_call 41; refine HC.out.mono ?_; rintro e w3 ⟨rfl, hw⟩; clear HD))
          go_ret
          exact ⟨rfl, ⟨HT.out _ _ _ hw.out⟩⟩
        | true =>
          rw [hcb] at HC
          go_enter Tryd.func70, Tryd.ntmps70
          go_wp2_with (first
            | (go_at_call 41; refine HC.out.mono ?_; rintro e w3 ⟨rfl, hw⟩; obtain ⟨y0, y1, y2, HG⟩ := HD.out w3 hw.out; clear HD HC p0 p1 n1)
            | (go_at_call 41; refine HG.mono ?_; rintro e w4 ⟨rfl, hw4⟩))
          go_ret
          exact ⟨rfl, hw4⟩
      · rw [if_neg h20]
        have b20 : (x.op == 20) = false := by simp [h20]
        by_cases h27 : x.op = 27
        · rw [if_pos h27]
          obtain ⟨a0, a1⟩ := ht.arms h27
          have HC : Bx _ := ⟨fork_any w1 wb g A L gb P K D h1 B x.list ka kc (hks.below hBl) hB (by have := bw.size; omega) a0 a1 p hp⟩
          clear HCOME h hc hB ht hat i0 i1 i2 i3 hks hcell b0 b1 bw q0 q1 r1 hx hxe hA hBl h1 HF0 h25 a0 a1 h19 h20
          have b27 : (x.op == 27) = true := by simp [h27]
          generalize x.op = op at *
          generalize x.a = xa at *
          generalize x.b = xb at *
          generalize comeL (armW x.list p) K D = R at *
          subst h27
          go_enter Tryd.func70, Tryd.ntmps70
          go_wp2_with (first
            | (go_at_call 84; refine HC.out.mono ?_; rintro e w3 ⟨rfl, hw⟩))
          go_ret
          exact ⟨rfl, ⟨HT.out _ _ _ hw.out⟩⟩
        · rw [if_neg h27, comeL_one]
          have b27 : (x.op == 27) = false := by simp [h27]
          have hon := ht.on (by omega) (by omega) (by omega) (by omega)
          have HC := HCOME (i + 1) hon
          rw [show ((i + 1 : Nat) : Int) = (i : Int) + 1 by omega] at HC
          clear HCOME h hc hB ht hat i0 i1 i2 i3 hks hcell b0 b1 bw q0 q1 r1 hx hxe hA hBl h1 HF0 h25 h19 h20 h27
          generalize x.op = op at *
          generalize x.a = xa at *
          generalize x.b = xb at *
          go_enter Tryd.func70, Tryd.ntmps70
          go_wp2_with (first
            | (go_at_call 41; refine HC.out.mono ?_; rintro e w3 ⟨rfl, hw⟩))
          go_ret
          exact ⟨rfl, ⟨HT.out _ _ _ hw.out⟩⟩
end Go.Proofs.YtadmpgegolmkgaaDoor
