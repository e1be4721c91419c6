import Derived.Test.YtdhgmeklphcbhaaCVPw
namespace Go.Proofs.Ytdhgmeklphcbhaa
open Go.RowKit
set_option linter.unusedVariables false
set_option linter.unusedSimpArgs false

theorem v0_is (W : World) : IsV W W.heap.size (pv 0 0) v0 := ⟨⟨none, 0, rfl, ⟨by simp [v0, V.l], by simp [maxLen], .inl rfl⟩⟩, ⟨by decide, by decide⟩, ⟨by decide, by decide⟩⟩
set_option maxRecDepth 100000 in
set_option maxHeartbeats 8000000 in
theorem puts_no (w : World) (v : Value) (x : V) (hv : IsV w w.heap.size v x) (hlx : Lim x) (pp : Option Addr) (pc : Nat) (ks : List Int) (hp : Pth w w.heap.size pp pc ks) (u : Value) (y : V) (hu : IsV w w.heap.size u y) (hly : Lim y) (op : Option Addr) (oc : Nat) (os : List Int) (ho : Pth w w.heap.size op oc os) (hf : findV x ks = none) :
    Calls Try.prog 5 #[v, .slice pp ks.length pc, u, .slice op os.length oc] w fun e w' => e = .returned (.bool true) ∧ Below w.heap.size w w' := by
  obtain ⟨⟨p, c, rfl, h1⟩, h2, h3⟩ := hv
  obtain ⟨⟨p', c', rfl, k1⟩, k2, k3⟩ := hu
  have HL : Bx (Lim x ∧ Lim y) := ⟨hlx, hly⟩
  have HP : Bx (∀ W, Below w.heap.size w W → Pth W W.heap.size pp pc ks) := ⟨fun W hW => (hp.lo (Lo.of hW)).up hW.size⟩
  have HF : Bx _ := ⟨hf⟩
  have HSM : Bx (∀ W, Calls Try.prog 20 #[pv 0 0, pv 0 0] W fun e w' => e = .returned (.bool true) ∧ Below W.heap.size W w') := ⟨fun W => (eqB_yes (rfl : v0 = v0)) ▸ same_any W W.heap.size _ _ v0 v0 (v0_is W) (v0_is W) (Nat.le_refl _)⟩
  have H0 : Bx (BV ((w.alloc (Obj.cells #[.int .i64 x.k, .int .i64 x.n, .slice p x.l.length c] 24)).alloc (Obj.cells #[.int .i64 y.k, .int .i64 y.n, .slice p' y.l.length c'] 24)) w.heap.size x p c ∧ BV ((w.alloc (Obj.cells #[.int .i64 x.k, .int .i64 x.n, .slice p x.l.length c] 24)).alloc (Obj.cells #[.int .i64 y.k, .int .i64 y.n, .slice p' y.l.length c'] 24)) (w.heap.size + 1) y p' c' ∧ Below w.heap.size w ((w.alloc (Obj.cells #[.int .i64 x.k, .int .i64 x.n, .slice p x.l.length c] 24)).alloc (Obj.cells #[.int .i64 y.k, .int .i64 y.n, .slice p' y.l.length c'] 24))) := ⟨by
    have hb : Below w.heap.size w ((w.alloc (Obj.cells #[.int .i64 x.k, .int .i64 x.n, .slice p x.l.length c] 24)).alloc (Obj.cells #[.int .i64 y.k, .int .i64 y.n, .slice p' y.l.length c'] 24)) := two_new _ _ _
    exact ⟨⟨(Below.heap_alloc _ _ _ (by simp)).trans (World.alloc_heap_new _ _), (h1.lo (Lo.of hb)).up hb.size, h2, h3⟩, ⟨alloc_at _ _ _, (k1.lo (Lo.of hb)).up hb.size, k2, k3⟩, hb⟩⟩
  clear h1 h2 h3 k1 k2 k3 hlx hly hp ho hf
  have m2 : True := trivial
  have m3 : True := trivial
  have m4 : True := trivial
  go_enter Try.func5, Try.ntmps5
  go_wp2_with (first
    | (go_at_call 8; refine (shown_any _).mono ?_; rintro e w1 ⟨rfl, hb1⟩; have H1 : Bx (BV w1 w.heap.size x p c ∧ BV w1 (w.heap.size + 1) y p' c' ∧ Below w.heap.size w w1) := ⟨H0.out.1.next hb1, H0.out.2.1.next hb1, H0.out.2.2.trans (hb1.mono H0.out.2.2.size)⟩; clear hb1; skip; obtain ⟨a00, a01, a02, _, _, _, a0l⟩ := c3 H1.out.1.a; obtain ⟨a10, a11, a12, _, _, _, a1l⟩ := c3 H1.out.2.1.a)
    | (go_at_call 9; have _t := m2; clear m2 _t; refine Calls.mono (great_any w1 w1.heap.size _ x H1.out.1.isv (Nat.le_refl _) HL.out.1) ?_; rintro e w2 ⟨g1, rfl, hz1, hb2⟩; have HZ1 : Bx (g1 = false → x.sz ≤ 65536) := ⟨hz1⟩; clear hz1; have H2 : Bx (BV w2 w.heap.size x p c ∧ BV w2 (w.heap.size + 1) y p' c' ∧ Below w.heap.size w w2) := ⟨H1.out.1.next hb2, H1.out.2.1.next hb2, H1.out.2.2.trans (hb2.mono H1.out.2.2.size)⟩; clear hb2; clear a00 a01 a02 a0l a10 a11 a12 a1l; obtain ⟨b00, b01, b02, _, _, _, b0l⟩ := c3 H2.out.1.a; obtain ⟨b10, b11, b12, _, _, _, b1l⟩ := c3 H2.out.2.1.a; cases g1)
    | (go_at_call 9; have _t := m3; clear m3 _t; refine Calls.mono (great_any w2 w2.heap.size _ y H2.out.2.1.isv (Nat.le_refl _) HL.out.2) ?_; rintro e w3 ⟨g2, rfl, hz2, hb3⟩; have HZ2 : Bx (g2 = false → y.sz ≤ 65536) := ⟨hz2⟩; clear hz2; have H3 : Bx (BV w3 w.heap.size x p c ∧ BV w3 (w.heap.size + 1) y p' c' ∧ Below w.heap.size w w3) := ⟨H2.out.1.next hb3, H2.out.2.1.next hb3, H2.out.2.2.trans (hb3.mono H2.out.2.2.size)⟩; clear hb3; clear b00 b01 b02 b0l b10 b11 b12 b1l; obtain ⟨c00, c01, c02, _, _, _, c0l⟩ := c3 H3.out.1.a; obtain ⟨c10, c11, c12, _, _, _, c1l⟩ := c3 H3.out.2.1.a; cases g2)
    | (go_at_call 22; refine Calls.mono (Part_no w3 w3.heap.size _ x pp pc ks H3.out.1.isv (HP.out _ H3.out.2.2) (Nat.le_refl _) HF.out) ?_; rintro e w4 ⟨rfl, hb4⟩; have hb4n := hb4.trans ((below1 w4 (Obj.cells #[.int .i64 0, .int .i64 0, .slice none 0 0] 24)).mono hb4.size); have H4 : Bx ((BV (w4.alloc (Obj.cells #[.int .i64 0, .int .i64 0, .slice none 0 0] 24)) w.heap.size x p c ∧ BV (w4.alloc (Obj.cells #[.int .i64 0, .int .i64 0, .slice none 0 0] 24)) (w.heap.size + 1) y p' c' ∧ Below w.heap.size w (w4.alloc (Obj.cells #[.int .i64 0, .int .i64 0, .slice none 0 0] 24)))) := ⟨H3.out.1.next hb4n, H3.out.2.1.next hb4n, H3.out.2.2.trans (hb4n.mono H3.out.2.2.size)⟩; have hs4 : w3.heap.size ≤ w4.heap.size := (by first | exact hb4.size | (have := hb4.size; simp at this; omega)); have a4 := hb4.block w.heap.size c0l; have b4 := hb4.block (w.heap.size + 1) c1l; obtain ⟨d00, d01, d02, _, _, _, d0l⟩ := c3 (a4.trans H3.out.1.a); obtain ⟨d10, d11, d12, _, _, _, d1l⟩ := c3 (b4.trans H3.out.2.1.a); clear hb4 hb4n a4 b4; clear c00 c01 c02 c0l c10 c11 c12 c1l)
    | (go_at_call 23; refine Calls.mono (With_no (w4.alloc (Obj.cells #[.int .i64 0, .int .i64 0, .slice none 0 0] 24)) _ _ _ x y pp pc ks H4.out.1.isv H4.out.2.1.isv (HP.out _ H4.out.2.2) (Nat.le_refl _) HF.out) ?_; rintro e w5 ⟨rfl, hb5⟩; have hb5n := hb5.trans ((below1 w5 (Obj.cells #[.int .i64 0, .int .i64 0, .slice none 0 0] 24)).mono hb5.size); have HB5 : Bx (Below w.heap.size w (w5.alloc (Obj.cells #[.int .i64 0, .int .i64 0, .slice none 0 0] 24))) := ⟨H4.out.2.2.trans (hb5n.mono H4.out.2.2.size)⟩; have w5z : w4.heap.size < w5.heap.size := (by have := hb5.size; simp at this; omega); have t5 : w5.heap[w4.heap.size]? = some (Obj.cells #[.int .i64 0, .int .i64 0, .slice none 0 0] 24) := (hb5.block w4.heap.size (by simp)).trans (World.alloc_heap_new _ _); have hT5 : Bx _ := ⟨t5⟩; obtain ⟨t50, t51, t52, _, _, _, t5l⟩ := c3 t5; clear hb5 hb5n t5)
    | (go_at_call 20; have _t := m4; clear m4 _t; refine Calls.mono (HSM.out _) ?_; rintro e w6 ⟨rfl, hb6⟩; have t6 : w6.heap[w4.heap.size]? = some (Obj.cells #[.int .i64 0, .int .i64 0, .slice none 0 0] 24) := (hb6.block w4.heap.size (by simp; omega)).trans ((Below.heap_alloc _ _ _ (by omega)).trans ((hT5.out))); obtain ⟨t60, t61, t62, _, _, _, t6l⟩ := c3 t6; have HB6 : Bx (Below w.heap.size w w6) := ⟨HB5.out.trans (hb6.mono HB5.out.size)⟩; clear hb6 t6)
    | (go_at_call 20; refine Calls.mono (HSM.out _) ?_; rintro e w7 ⟨rfl, hb7⟩; have HB7 : Bx (Below w.heap.size w w7) := ⟨HB6.out.trans (hb7.mono HB6.out.size)⟩))
  · go_ret
    exact ⟨rfl, HB7.out⟩
  · go_ret
    exact ⟨rfl, H3.out.2.2⟩
  · go_ret
    exact ⟨rfl, H2.out.2.2⟩
theorem puts_walk (w : World) (v : Value) (x : V) (hv : IsV w w.heap.size v x) (hlx : Lim x) (pp : Option Addr) (pc : Nat) (ks : List Int) (hp : Pth w w.heap.size pp pc ks) (u : Value) (y : V) (hu : IsV w w.heap.size u y) (hly : Lim y) (op : Option Addr) (oc : Nat) (os : List Int) (ho : Pth w w.heap.size op oc os) :
    Calls Try.prog 5 #[v, .slice pp ks.length pc, u, .slice op os.length oc] w fun e w' => e = .returned (.bool true) ∧ Below w.heap.size w w' := by
  cases hf : findV x ks with
  | none => exact puts_no w v x hv hlx pp pc ks hp u y hu hly op oc os ho hf
  | some z => exact puts_yes w v x hv hlx pp pc ks hp u y hu hly op oc os ho z hf
end Go.Proofs.Ytdhgmeklphcbhaa
