import Derived.Test.YtdhgmeklphcbhaaCVWx
import Derived.Test.YtdhgmeklphcbhaaCVSe
import Derived.Test.YtdhgmeklphcbhaaCVGt
import Derived.Test.YtdhgmeklphcbhaaCVSh
import Derived.Deep.RegionHeld
import Derived.Deep.QuietTactic
import Derived.WalkSmall
namespace Go.Proofs.Ytdhgmeklphcbhaa
open Go.RowKit
set_option linter.unusedVariables false
set_option linter.unusedSimpArgs false

/-- a value in a box -/
structure BV (W : World) (b : Nat) (x : V) (q : Option Addr) (d : Nat) : Prop where
  a : W.heap[b]? = some (Obj.cells #[.int .i64 x.k, .int .i64 x.n, .slice q x.l.length d] 24)
  s : SlV W W.heap.size q d x.l
  k64 : I64 x.k
  n64 : I64 x.n
theorem BV.next {W W' : World} {b : Nat} {x : V} {q : Option Addr} {d : Nat} (h : BV W b x q d) (hb : Below W.heap.size W W') : BV W' b x q d :=
  ⟨keep_h hb h.a, (h.s.lo (Lo.of hb)).up hb.size, h.k64, h.n64⟩
theorem BV.isv {W : World} {b : Nat} {x : V} {q : Option Addr} {d : Nat} (h : BV W b x q d) : IsV W W.heap.size (.agg #[.int .i64 x.k, .int .i64 x.n, .slice q x.l.length d]) x := ⟨⟨q, d, rfl, h.s⟩, h.k64, h.n64⟩
theorem BV.new {W : World} {x : V} {q : Option Addr} {d : Nat} (h : IsV W W.heap.size (.agg #[.int .i64 x.k, .int .i64 x.n, .slice q x.l.length d]) x) : BV (W.alloc (Obj.cells #[.int .i64 x.k, .int .i64 x.n, .slice q x.l.length d] 24)) W.heap.size x q d := by
  obtain ⟨⟨q', d', e, h1⟩, h2, h3⟩ := h
  simp at e
  obtain ⟨rfl, rfl⟩ := e
  exact ⟨World.alloc_heap_new _ _, (h1.lo (Lo.of (below1 _ _))).up (below1 W _).size, h2, h3⟩
theorem Part_all (w : World) (B : Nat) (v : Value) (x : V) (pp : Option Addr) (pc : Nat) (ks : List Int) (hv : IsV w B v x) (hp : Pth w B pp pc ks) (hB : B ≤ w.heap.size) (hx : x.sz ≤ 200000) :
    Calls Try.prog 22 #[v, .slice pp ks.length pc] w fun e w' => ∃ u, e = .returned (.tuple #[u, .bool (findV x ks).isSome]) ∧ IsV w' w'.heap.size u ((findV x ks).getD v0) ∧ Below w.heap.size w w' := by
  cases hf : findV x ks with
  | none =>
    refine (Part_no w B v x pp pc ks hv hp hB hf).mono ?_
    rintro e w' ⟨rfl, hb⟩
    exact ⟨_, rfl, ⟨⟨none, 0, rfl, ⟨by simp [v0, V.l], by simp [maxLen], .inl rfl⟩⟩, ⟨by decide, by decide⟩, ⟨by decide, by decide⟩⟩, hb⟩
  | some y => exact Part_yes w B v x y pp pc ks hv hp hB hf hx
/-- do two paths part, among their first i? -/
def apF (ks os : List Int) : Nat → Bool
  | 0 => false
  | i + 1 => apF ks os i || (ks.getD i 0 != os.getD i 0)
theorem apF_yes {ks os : List Int} : ∀ {i : Nat}, i ≤ ks.length → i ≤ os.length → apF ks os i = true → ∃ j, ∃ (h1 : j < ks.length) (h2 : j < os.length), ks[j] ≠ os[j]
  | 0, _, _, h => by simp [apF] at h
  | i + 1, h1, h2, h => by
    simp only [apF, Bool.or_eq_true] at h
    rcases h with h | h
    · exact apF_yes (by omega) (by omega) h
    · rw [List.getD, List.getD, List.getElem?_eq_getElem (by omega), List.getElem?_eq_getElem (by omega)] at h
      exact ⟨i, by omega, by omega, by simpa using h⟩
theorem IsV.form {W : World} {B : Nat} {u : Value} {x : V} (h : IsV W B u x) : ∃ q d, u = .agg #[.int .i64 x.k, .int .i64 x.n, .slice q x.l.length d] := by
  obtain ⟨⟨q, d, e, _⟩, _⟩ := h
  exact ⟨q, d, e⟩
theorem wrap_in {n : Int} (h1 : -9223372036854775808 ≤ n) (h2 : n ≤ 9223372036854775807) : IntKind.i64.wrap n = n := by
  simp [IntKind.wrap, IntKind.bits, IntKind.signed]
  omega
set_option maxRecDepth 100000 in
set_option maxHeartbeats 8000000 in
theorem puts_yes (w : World) (v : Value) (x : V) (hv : IsV w w.heap.size v x) (hlx : Lim x) (pp : Option Addr) (pc : Nat) (ks : List Int) (hp : Pth w w.heap.size pp pc ks) (u : Value) (y : V) (hu : IsV w w.heap.size u y) (hly : Lim y) (op : Option Addr) (oc : Nat) (os : List Int) (ho : Pth w w.heap.size op oc os) (z : V) (hf : findV x ks = some z) :
    Calls Try.prog 5 #[v, .slice pp ks.length pc, u, .slice op os.length oc] w fun e w' => e = .returned (.bool true) ∧ Below w.heap.size w w' := by
  obtain ⟨⟨p, c, rfl, h1⟩, h2, h3⟩ := hv
  obtain ⟨⟨p', c', rfl, k1⟩, k2, k3⟩ := hu
  have hpl := hp.len
  have hpm := hp.max
  have hol := ho.len
  have hom := ho.max
  unfold maxLen at hpm hom
  have HL : Bx (Lim x ∧ Lim y) := ⟨hlx, hly⟩
  have HP : Bx (∀ W, Below w.heap.size w W → Pth W W.heap.size pp pc ks ∧ Pth W W.heap.size op oc os) := ⟨fun W hW => ⟨(hp.lo (Lo.of hW)).up hW.size, (ho.lo (Lo.of hW)).up hW.size⟩⟩
  have HF : Bx _ := ⟨hf⟩
  have hX1 := put_find (y := y) hf
  have hX2 := put_sz (y := y) hf
  have hX3 := put_back (y := y) hf
  have hX4 : (∃ i, ∃ (h1 : i < ks.length) (h2 : i < os.length), ks[i] ≠ os[i]) → findV (putV x ks y) os = findV x os := fun h => put_apart hf h
  have hX0 : ∀ W u1 u2, IsV W W.heap.size u1 x → IsV W W.heap.size u2 y → Below w.heap.size w W → x.sz ≤ 65536 → y.sz ≤ 65536 → Calls Try.prog 23 #[u1, .slice pp ks.length pc, u2] W fun e w' => ∃ a, e = .returned (.tuple #[a, .bool true]) ∧ IsV w' w'.heap.size a (putV x ks y) ∧ Below W.heap.size W w' := fun W u1 u2 a1 a2 a3 a4 a5 => With_yes W W.heap.size u1 u2 x y z pp pc ks a1 a2 (HP.out W a3).1 (Nat.le_refl _) hf (by omega) (by omega)
  obtain ⟨X, hX⟩ : ∃ X, putV x ks y = X := ⟨_, rfl⟩
  rw [hX] at hX1 hX2 hX3 hX4
  simp only [hX] at hX0
  have HX : Bx (findV X ks = some y ∧ X.sz + z.sz = x.sz + y.sz ∧ putV X ks z = x ∧ ((∃ i, ∃ (h1 : i < ks.length) (h2 : i < os.length), ks[i] ≠ os[i]) → findV X os = findV x os)) := ⟨hX1, hX2, hX3, hX4⟩
  have HW : Bx _ := ⟨hX0⟩
  have hzz := find_sz hf
  have HZ : Bx (z.sz ≤ x.sz) := ⟨hzz⟩
  have H0 : Bx (BV ((w.alloc (Obj.cells #[.int .i64 x.k, .int .i64 x.n, .slice p x.l.length c] 24)).alloc (Obj.cells #[.int .i64 y.k, .int .i64 y.n, .slice p' y.l.length c'] 24)) w.heap.size x p c ∧ BV ((w.alloc (Obj.cells #[.int .i64 x.k, .int .i64 x.n, .slice p x.l.length c] 24)).alloc (Obj.cells #[.int .i64 y.k, .int .i64 y.n, .slice p' y.l.length c'] 24)) (w.heap.size + 1) y p' c' ∧ Below w.heap.size w ((w.alloc (Obj.cells #[.int .i64 x.k, .int .i64 x.n, .slice p x.l.length c] 24)).alloc (Obj.cells #[.int .i64 y.k, .int .i64 y.n, .slice p' y.l.length c'] 24))) := ⟨by
    have hb : Below w.heap.size w ((w.alloc (Obj.cells #[.int .i64 x.k, .int .i64 x.n, .slice p x.l.length c] 24)).alloc (Obj.cells #[.int .i64 y.k, .int .i64 y.n, .slice p' y.l.length c'] 24)) := two_new _ _ _
    exact ⟨⟨(Below.heap_alloc _ _ _ (by simp)).trans (World.alloc_heap_new _ _), (h1.lo (Lo.of hb)).up hb.size, h2, h3⟩, ⟨alloc_at _ _ _, (k1.lo (Lo.of hb)).up hb.size, k2, k3⟩, hb⟩⟩
  clear h1 h2 h3 k1 k2 k3 hlx hly hp ho hf hX0 hX1 hX2 hX3 hX4 hX hzz
  have m2 : True := trivial
  have m3 : True := trivial
  have m4 : True := trivial
  have m5 : True := trivial
  have m6 : True := trivial
  go_enter Try.func5, Try.ntmps5
  go_wp2_with (first
    | (go_at_call 8; refine (shown_any _).mono ?_; rintro e w1 ⟨rfl, hb1⟩; have H1 : Bx (BV w1 w.heap.size x p c ∧ BV w1 (w.heap.size + 1) y p' c' ∧ Below w.heap.size w w1) := ⟨H0.out.1.next hb1, H0.out.2.1.next hb1, H0.out.2.2.trans (hb1.mono H0.out.2.2.size)⟩; clear hb1; skip; obtain ⟨a00, a01, a02, _, _, _, a0l⟩ := c3 H1.out.1.a; obtain ⟨a10, a11, a12, _, _, _, a1l⟩ := c3 H1.out.2.1.a)
    | (go_at_call 9; have _t := m2; clear m2 _t; refine Calls.mono (great_any w1 w1.heap.size _ x H1.out.1.isv (Nat.le_refl _) HL.out.1) ?_; rintro e w2 ⟨g1, rfl, hz1, hb2⟩; have HZ1 : Bx (g1 = false → x.sz ≤ 65536) := ⟨hz1⟩; clear hz1; have H2 : Bx (BV w2 w.heap.size x p c ∧ BV w2 (w.heap.size + 1) y p' c' ∧ Below w.heap.size w w2) := ⟨H1.out.1.next hb2, H1.out.2.1.next hb2, H1.out.2.2.trans (hb2.mono H1.out.2.2.size)⟩; clear hb2; clear a00 a01 a02 a0l a10 a11 a12 a1l; obtain ⟨b00, b01, b02, _, _, _, b0l⟩ := c3 H2.out.1.a; obtain ⟨b10, b11, b12, _, _, _, b1l⟩ := c3 H2.out.2.1.a; cases g1)
    | (go_at_call 9; have _t := m3; clear m3 _t; refine Calls.mono (great_any w2 w2.heap.size _ y H2.out.2.1.isv (Nat.le_refl _) HL.out.2) ?_; rintro e w3 ⟨g2, rfl, hz2, hb3⟩; have HZ2 : Bx (g2 = false → y.sz ≤ 65536) := ⟨hz2⟩; clear hz2; have H3 : Bx (BV w3 w.heap.size x p c ∧ BV w3 (w.heap.size + 1) y p' c' ∧ Below w.heap.size w w3) := ⟨H2.out.1.next hb3, H2.out.2.1.next hb3, H2.out.2.2.trans (hb3.mono H2.out.2.2.size)⟩; clear hb3; clear b00 b01 b02 b0l b10 b11 b12 b1l; obtain ⟨c00, c01, c02, _, _, _, c0l⟩ := c3 H3.out.1.a; obtain ⟨c10, c11, c12, _, _, _, c1l⟩ := c3 H3.out.2.1.a; cases g2)
    | (go_at_call 22; have _t := m4; clear m4 _t; have HSZ : Bx (x.sz ≤ 65536 ∧ y.sz ≤ 65536) := ⟨HZ1.out (by simp), HZ2.out (by simp)⟩; refine Calls.mono (Part_yes w3 w3.heap.size _ x z pp pc ks H3.out.1.isv (HP.out _ H3.out.2.2).1 (Nat.le_refl _) HF.out (by have := HSZ.out; omega)) ?_; rintro e w4 ⟨u4, rfl, hu4, hb4⟩; obtain ⟨q, d, rfl⟩ := hu4.form; obtain ⟨zb, hzb⟩ : ∃ E, w4.heap.size = E := ⟨_, rfl⟩; obtain ⟨W4, hW4⟩ : ∃ W, w4.alloc (Obj.cells #[.int .i64 z.k, .int .i64 z.n, .slice q z.l.length d] 24) = W := ⟨_, rfl⟩; have bb4 : Below w4.heap.size w4 W4 := (by rw [← hW4]; exact below1 _ _); have bn4 := hb4.trans (bb4.mono hb4.size); have H4 : Bx (BV W4 w.heap.size x p c ∧ BV W4 (w.heap.size + 1) y p' c' ∧ BV W4 zb z q d ∧ Below w.heap.size w W4) := ⟨H3.out.1.next bn4, H3.out.2.1.next bn4, (by rw [← hzb, ← hW4]; exact BV.new hu4), H3.out.2.2.trans (bn4.mono H3.out.2.2.size)⟩; clear hb4 hu4 bb4 bn4; clear c00 c01 c02 c0l c10 c11 c12 c1l; obtain ⟨d00, d01, d02, _, _, _, d0l⟩ := c3 H4.out.1.a; obtain ⟨d10, d11, d12, _, _, _, d1l⟩ := c3 H4.out.2.1.a; obtain ⟨d20, d21, d22, _, _, _, d2l⟩ := c3 H4.out.2.2.1.a)
    | (go_at_call 23; have _t := m5; clear m5 _t; refine Calls.mono (HW.out W4 _ _ H4.out.1.isv H4.out.2.1.isv H4.out.2.2.2 HSZ.out.1 HSZ.out.2) ?_; rintro e w5 ⟨u5, rfl, hu5, hb5⟩; obtain ⟨r, e, rfl⟩ := hu5.form; obtain ⟨xb, hxb⟩ : ∃ E, w5.heap.size = E := ⟨_, rfl⟩; obtain ⟨W5, hW5⟩ : ∃ W, w5.alloc (Obj.cells #[.int .i64 X.k, .int .i64 X.n, .slice r X.l.length e] 24) = W := ⟨_, rfl⟩; have bb5 : Below w5.heap.size w5 W5 := (by rw [← hW5]; exact below1 _ _); have bn5 := hb5.trans (bb5.mono hb5.size); have H5 : Bx (BV W5 w.heap.size x p c ∧ BV W5 (w.heap.size + 1) y p' c' ∧ BV W5 zb z q d ∧ BV W5 xb X r e ∧ Below w.heap.size w W5) := ⟨H4.out.1.next bn5, H4.out.2.1.next bn5, H4.out.2.2.1.next bn5, (by rw [← hxb, ← hW5]; exact BV.new hu5), H4.out.2.2.2.trans (bn5.mono H4.out.2.2.2.size)⟩; clear hb5 hu5 bb5 bn5; clear d00 d01 d02 d0l d10 d11 d12 d1l d20 d21 d22 d2l; obtain ⟨e00, e01, e02, _, _, _, e0l⟩ := c3 H5.out.1.a; obtain ⟨e10, e11, e12, _, _, _, e1l⟩ := c3 H5.out.2.1.a; obtain ⟨e20, e21, e22, _, _, _, e2l⟩ := c3 H5.out.2.2.1.a; obtain ⟨e30, e31, e32, _, _, _, e3l⟩ := c3 H5.out.2.2.2.1.a)
    | (go_at_call 22; have _t := m6; clear m6 _t; refine Calls.mono (Part_yes W5 W5.heap.size _ X y pp pc ks H5.out.2.2.2.1.isv (HP.out _ H5.out.2.2.2.2).1 (Nat.le_refl _) HX.out.1 (by have := HX.out.2.1; have := HSZ.out; omega)) ?_; rintro e w6 ⟨u6, rfl, hu6, hb6⟩; obtain ⟨q2, d2, rfl⟩ := hu6.form; obtain ⟨nb, hnb⟩ : ∃ E, w6.heap.size = E := ⟨_, rfl⟩; obtain ⟨W6, hW6⟩ : ∃ W, w6.alloc (Obj.cells #[.int .i64 y.k, .int .i64 y.n, .slice q2 y.l.length d2] 24) = W := ⟨_, rfl⟩; have bb6 : Below w6.heap.size w6 W6 := (by rw [← hW6]; exact below1 _ _); have bn6 := hb6.trans (bb6.mono hb6.size); have H6 : Bx (BV W6 w.heap.size x p c ∧ BV W6 (w.heap.size + 1) y p' c' ∧ BV W6 zb z q d ∧ BV W6 xb X r e ∧ BV W6 nb y q2 d2 ∧ Below w.heap.size w W6) := ⟨H5.out.1.next bn6, H5.out.2.1.next bn6, H5.out.2.2.1.next bn6, H5.out.2.2.2.1.next bn6, (by rw [← hnb, ← hW6]; exact BV.new hu6), H5.out.2.2.2.2.trans (bn6.mono H5.out.2.2.2.2.size)⟩; clear hb6 hu6 bb6 bn6; clear e00 e01 e02 e0l e10 e11 e12 e1l e20 e21 e22 e2l e30 e31 e32 e3l; obtain ⟨f00, f01, f02, _, _, _, f0l⟩ := c3 H6.out.1.a; obtain ⟨f10, f11, f12, _, _, _, f1l⟩ := c3 H6.out.2.1.a; obtain ⟨f20, f21, f22, _, _, _, f2l⟩ := c3 H6.out.2.2.1.a; obtain ⟨f30, f31, f32, _, _, _, f3l⟩ := c3 H6.out.2.2.2.1.a; obtain ⟨f40, f41, f42, _, _, _, f4l⟩ := c3 H6.out.2.2.2.2.1.a))
  · obtain ⟨sX, hsX⟩ : ∃ n, X.sz = n := ⟨_, rfl⟩
    obtain ⟨sx, hsx⟩ : ∃ n, x.sz = n := ⟨_, rfl⟩
    obtain ⟨sy, hsy⟩ : ∃ n, y.sz = n := ⟨_, rfl⟩
    obtain ⟨sz, hsz⟩ : ∃ n, z.sz = n := ⟨_, rfl⟩
    have HSUM : Bx (sX + sz = sx + sy ∧ sx ≤ 65536 ∧ sy ≤ 65536 ∧ sz ≤ sx ∧ X.sz = sX ∧ x.sz = sx ∧ y.sz = sy ∧ z.sz = sz) := ⟨by have := HX.out.2.1; have := HSZ.out; have := HZ.out; omega⟩
    have HSI : Bx (∀ n : Nat, n ≤ 200000 → sizeI n 1099511627776 = (n : Int)) := ⟨fun n hn => by unfold sizeI; rw [if_neg (by omega)]; omega⟩
    have C1 : Bx (∀ W, Below W6.heap.size W6 W → Calls Try.prog 20 #[(.agg #[.int .i64 y.k, .int .i64 y.n, .slice q2 y.l.length d2]), (.agg #[.int .i64 y.k, .int .i64 y.n, .slice p' y.l.length c'])] W fun e w' => e = .returned (.bool true) ∧ Below W.heap.size W w') := ⟨fun W hb => (eqB_yes (rfl : y = y)) ▸ same_any W W.heap.size _ _ y y (H6.out.2.2.2.2.1.next hb).isv (H6.out.2.1.next hb).isv (Nat.le_refl _)⟩
    have C2 : Bx (∀ W, Below W6.heap.size W6 W → Calls Try.prog 14 #[(.agg #[.int .i64 X.k, .int .i64 X.n, .slice r X.l.length e]), .int .i64 1099511627776] W fun e w' => e = .returned (.int .i64 (sX : Int)) ∧ Below W.heap.size W w') := ⟨fun W hb => by
      have hs := HSUM.out
      have := Size_big W W.heap.size _ X 1099511627776 (H6.out.2.2.2.1.next hb).isv (Nat.le_refl _) (by omega) ⟨by omega, by omega⟩
      rw [HSI.out _ (by omega), show X.sz = sX by omega] at this
      exact this⟩
    have C3 : Bx (∀ W, Below W6.heap.size W6 W → Calls Try.prog 14 #[(.agg #[.int .i64 x.k, .int .i64 x.n, .slice p x.l.length c]), .int .i64 1099511627776] W fun e w' => e = .returned (.int .i64 (sx : Int)) ∧ Below W.heap.size W w') := ⟨fun W hb => by
      have hs := HSUM.out
      have := Size_big W W.heap.size _ x 1099511627776 (H6.out.1.next hb).isv (Nat.le_refl _) (by omega) ⟨by omega, by omega⟩
      rw [HSI.out _ (by omega), show x.sz = sx by omega] at this
      exact this⟩
    have C4 : Bx (∀ W, Below W6.heap.size W6 W → Calls Try.prog 14 #[(.agg #[.int .i64 z.k, .int .i64 z.n, .slice q z.l.length d]), .int .i64 1099511627776] W fun e w' => e = .returned (.int .i64 (sz : Int)) ∧ Below W.heap.size W w') := ⟨fun W hb => by
      have hs := HSUM.out
      have := Size_big W W.heap.size _ z 1099511627776 (H6.out.2.2.1.next hb).isv (Nat.le_refl _) (by omega) ⟨by omega, by omega⟩
      rw [HSI.out _ (by omega), show z.sz = sz by omega] at this
      exact this⟩
    have C5 : Bx (∀ W, Below W6.heap.size W6 W → Calls Try.prog 14 #[(.agg #[.int .i64 y.k, .int .i64 y.n, .slice p' y.l.length c']), .int .i64 1099511627776] W fun e w' => e = .returned (.int .i64 (sy : Int)) ∧ Below W.heap.size W w') := ⟨fun W hb => by
      have hs := HSUM.out
      have := Size_big W W.heap.size _ y 1099511627776 (H6.out.2.1.next hb).isv (Nat.le_refl _) (by omega) ⟨by omega, by omega⟩
      rw [HSI.out _ (by omega), show y.sz = sy by omega] at this
      exact this⟩
    have HFc : Bx (∀ w', Below W6.heap.size W6 w' → w'.cell? ⟨w.heap.size, 0, none⟩ = some (.int .i64 x.k) ∧ w'.cell? ⟨w.heap.size, 1, none⟩ = some (.int .i64 x.n) ∧ w'.cell? ⟨w.heap.size, 2, none⟩ = some (.slice p x.l.length c) ∧ w'.cell? ⟨w.heap.size + 1, 0, none⟩ = some (.int .i64 y.k) ∧ w'.cell? ⟨w.heap.size + 1, 1, none⟩ = some (.int .i64 y.n) ∧ w'.cell? ⟨w.heap.size + 1, 2, none⟩ = some (.slice p' y.l.length c') ∧ w'.cell? ⟨zb, 0, none⟩ = some (.int .i64 z.k) ∧ w'.cell? ⟨zb, 1, none⟩ = some (.int .i64 z.n) ∧ w'.cell? ⟨zb, 2, none⟩ = some (.slice q z.l.length d) ∧ w'.cell? ⟨xb, 0, none⟩ = some (.int .i64 X.k) ∧ w'.cell? ⟨xb, 1, none⟩ = some (.int .i64 X.n) ∧ w'.cell? ⟨xb, 2, none⟩ = some (.slice r X.l.length e) ∧ w'.cell? ⟨nb, 0, none⟩ = some (.int .i64 y.k) ∧ w'.cell? ⟨nb, 1, none⟩ = some (.int .i64 y.n) ∧ w'.cell? ⟨nb, 2, none⟩ = some (.slice q2 y.l.length d2) ∧ Below W6.heap.size W6 w') := ⟨fun w' hb => by
      obtain ⟨g00, g01, g02, _⟩ := c3 (H6.out.1.next hb).a
      obtain ⟨g10, g11, g12, _⟩ := c3 (H6.out.2.1.next hb).a
      obtain ⟨g20, g21, g22, _⟩ := c3 (H6.out.2.2.1.next hb).a
      obtain ⟨g30, g31, g32, _⟩ := c3 (H6.out.2.2.2.1.next hb).a
      obtain ⟨g40, g41, g42, _⟩ := c3 (H6.out.2.2.2.2.1.next hb).a
      exact ⟨g00, g01, g02, g10, g11, g12, g20, g21, g22, g30, g31, g32, g40, g41, g42, hb⟩⟩
    have hbr : Below W6.heap.size W6 W6 := Below.refl _ _
    have hw1 : IntKind.i64.wrap ((sx : Int) - (sz : Int)) = (sx : Int) - (sz : Int) := by have := HSUM.out; exact wrap_in (by omega) (by omega)
    have hw2 : IntKind.i64.wrap ((sx : Int) - (sz : Int) + (sy : Int)) = (sX : Int) := by
      have := HSUM.out
      rw [wrap_in (by omega) (by omega)]
      omega
    clear f00 f01 f02 f0l f10 f11 f12 f1l f20 f21 f22 f2l f30 f31 f32 f3l f40 f41 f42 f4l
    have t2 : True := trivial
    have t3 : True := trivial
    have t4 : True := trivial
    clear hsX hsx hsy hsz
    go_region_held (fun w' => w'.cell? ⟨w.heap.size, 0, none⟩ = some (.int .i64 x.k) ∧ w'.cell? ⟨w.heap.size, 1, none⟩ = some (.int .i64 x.n) ∧ w'.cell? ⟨w.heap.size, 2, none⟩ = some (.slice p x.l.length c) ∧ w'.cell? ⟨w.heap.size + 1, 0, none⟩ = some (.int .i64 y.k) ∧ w'.cell? ⟨w.heap.size + 1, 1, none⟩ = some (.int .i64 y.n) ∧ w'.cell? ⟨w.heap.size + 1, 2, none⟩ = some (.slice p' y.l.length c') ∧ w'.cell? ⟨zb, 0, none⟩ = some (.int .i64 z.k) ∧ w'.cell? ⟨zb, 1, none⟩ = some (.int .i64 z.n) ∧ w'.cell? ⟨zb, 2, none⟩ = some (.slice q z.l.length d) ∧ w'.cell? ⟨xb, 0, none⟩ = some (.int .i64 X.k) ∧ w'.cell? ⟨xb, 1, none⟩ = some (.int .i64 X.n) ∧ w'.cell? ⟨xb, 2, none⟩ = some (.slice r X.l.length e) ∧ w'.cell? ⟨nb, 0, none⟩ = some (.int .i64 y.k) ∧ w'.cell? ⟨nb, 1, none⟩ = some (.int .i64 y.n) ∧ w'.cell? ⟨nb, 2, none⟩ = some (.slice q2 y.l.length d2) ∧ Below W6.heap.size W6 w')
      (first | exact HFc.out _ hz5 | exact HFc.out _ hz4 | exact HFc.out _ hz3 | exact HFc.out _ hz2 | exact HFc.out _ hz1 | exact HFc.out _ hbr.drew)
      (first | (go_at_call 20; refine Calls.mono (C1.out _ hbr.drew) ?_; rintro e z1 ⟨rfl, hz1'⟩; have hz1 : Below W6.heap.size W6 z1 := (hbr.drew).trans (hz1'.mono (hbr.drew).size)) | (go_at_call 14; have _t := t2; refine Calls.mono (C2.out _ hz1) ?_; rintro e z2 ⟨rfl, hz2'⟩; have hz2 : Below W6.heap.size W6 z2 := hz1.trans (hz2'.mono hz1.size); clear t2) | (go_at_call 14; have _t := t3; refine Calls.mono (C3.out _ hz2) ?_; rintro e z3' ⟨rfl, hz3'⟩; have hz3 : Below W6.heap.size W6 z3' := hz2.trans (hz3'.mono hz2.size); clear t3) | (go_at_call 14; have _t := t4; refine Calls.mono (C4.out _ hz3) ?_; rintro e z4 ⟨rfl, hz4'⟩; have hz4 : Below W6.heap.size W6 z4 := hz3.trans (hz4'.mono hz3.size); clear t4) | (go_at_call 14; refine Calls.mono (C5.out _ hz4) ?_; rintro e z5 ⟨rfl, hz5'⟩; have hz5 : Below W6.heap.size W6 z5 := hz4.trans (hz5'.mono hz4.size)))
    have H7 : Bx (BV z5 w.heap.size x p c ∧ BV z5 (w.heap.size + 1) y p' c' ∧ BV z5 zb z q d ∧ BV z5 xb X r e ∧ BV z5 nb y q2 d2 ∧ Below w.heap.size w z5) := ⟨H6.out.1.next hz5, H6.out.2.1.next hz5, H6.out.2.2.1.next hz5, H6.out.2.2.2.1.next hz5, H6.out.2.2.2.2.1.next hz5, H6.out.2.2.2.2.2.trans (hz5.mono H6.out.2.2.2.2.2.size)⟩
    have HW2 : Bx (∀ W u1 u2, IsV W W.heap.size u1 X → IsV W W.heap.size u2 z → Below w.heap.size w W → Calls Try.prog 23 #[u1, .slice pp ks.length pc, u2] W fun e w' => ∃ a, e = .returned (.tuple #[a, .bool true]) ∧ IsV w' w'.heap.size a x ∧ Below W.heap.size W w') := ⟨fun W u1 u2 a1 a2 a3 => by
      have hs := HSUM.out
      have := With_yes W W.heap.size u1 u2 X z y pp pc ks a1 a2 (HP.out W a3).1 (Nat.le_refl _) HX.out.1 (by omega) (by omega)
      rw [HX.out.2.2.1] at this
      exact this⟩
    have hz5c : True := trivial
    clear C1 C2 C3 C4 C5 HFc hbr hw1 hw2 HSI HW hzb hW4 hxb hW5 hnb hW6
    obtain ⟨g00, g01, g02, _, _, _, g0l⟩ := c3 H7.out.1.a
    obtain ⟨g10, g11, g12, _, _, _, g1l⟩ := c3 H7.out.2.1.a
    obtain ⟨g20, g21, g22, _, _, _, g2l⟩ := c3 H7.out.2.2.1.a
    obtain ⟨g30, g31, g32, _, _, _, g3l⟩ := c3 H7.out.2.2.2.1.a
    obtain ⟨g40, g41, g42, _, _, _, g4l⟩ := c3 H7.out.2.2.2.2.1.a
    go_wp2_with (first | (go_at_call 23; refine Calls.mono (HW2.out z5 _ _ H7.out.2.2.2.1.isv H7.out.2.2.1.isv H7.out.2.2.2.2.2) ?_; rintro e w8 ⟨u8, rfl, hu8, hb8⟩; obtain ⟨r2, e2, rfl⟩ := hu8.form; obtain ⟨bb, hbb⟩ : ∃ E, w8.heap.size = E := ⟨_, rfl⟩; obtain ⟨W8, hW8⟩ : ∃ W, w8.alloc (Obj.cells #[.int .i64 x.k, .int .i64 x.n, .slice r2 x.l.length e2] 24) = W := ⟨_, rfl⟩; have bb8 : Below w8.heap.size w8 W8 := (by rw [← hW8]; exact below1 _ _); have bn8 := hb8.trans (bb8.mono hb8.size); have H8 : Bx (BV W8 w.heap.size x p c ∧ BV W8 (w.heap.size + 1) y p' c' ∧ BV W8 zb z q d ∧ BV W8 xb X r e ∧ BV W8 nb y q2 d2 ∧ BV W8 bb x r2 e2 ∧ Below w.heap.size w W8) := ⟨H7.out.1.next bn8, H7.out.2.1.next bn8, H7.out.2.2.1.next bn8, H7.out.2.2.2.1.next bn8, H7.out.2.2.2.2.1.next bn8, (by rw [← hbb, ← hW8]; exact BV.new hu8), H7.out.2.2.2.2.2.trans (bn8.mono H7.out.2.2.2.2.2.size)⟩; clear hb8 hu8 bb8 bn8; clear g00 g01 g02 g0l g10 g11 g12 g1l g20 g21 g22 g2l g30 g31 g32 g3l g40 g41 g42 g4l; obtain ⟨h00, h01, h02, _, _, _, h0l⟩ := c3 H8.out.1.a; obtain ⟨h10, h11, h12, _, _, _, h1l⟩ := c3 H8.out.2.1.a; obtain ⟨h20, h21, h22, _, _, _, h2l⟩ := c3 H8.out.2.2.1.a; obtain ⟨h30, h31, h32, _, _, _, h3l⟩ := c3 H8.out.2.2.2.1.a; obtain ⟨h40, h41, h42, _, _, _, h4l⟩ := c3 H8.out.2.2.2.2.1.a; obtain ⟨h50, h51, h52, _, _, _, h5l⟩ := c3 H8.out.2.2.2.2.2.1.a) | (go_at_call 20; refine Calls.mono (same_any W8 W8.heap.size _ _ x x H8.out.2.2.2.2.2.1.isv H8.out.1.isv (Nat.le_refl _)) ?_; rintro e w9 ⟨rfl, hb9⟩; rw [eqB_yes (rfl : x = x)]; have H9 : Bx (BV w9 w.heap.size x p c ∧ BV w9 (w.heap.size + 1) y p' c' ∧ BV w9 zb z q d ∧ BV w9 xb X r e ∧ BV w9 nb y q2 d2 ∧ BV w9 bb x r2 e2 ∧ Below w.heap.size w w9) := ⟨H8.out.1.next hb9, H8.out.2.1.next hb9, H8.out.2.2.1.next hb9, H8.out.2.2.2.1.next hb9, H8.out.2.2.2.2.1.next hb9, H8.out.2.2.2.2.2.1.next hb9, H8.out.2.2.2.2.2.2.trans (hb9.mono H8.out.2.2.2.2.2.2.size)⟩; clear hb9; clear h00 h01 h02 h0l h10 h11 h12 h1l h20 h21 h22 h2l h30 h31 h32 h3l h40 h41 h42 h4l h50 h51 h52 h5l; obtain ⟨k00, k01, k02, _, _, _, k0l⟩ := c3 H9.out.1.a; obtain ⟨k10, k11, k12, _, _, _, k1l⟩ := c3 H9.out.2.1.a; obtain ⟨k20, k21, k22, _, _, _, k2l⟩ := c3 H9.out.2.2.1.a; obtain ⟨k30, k31, k32, _, _, _, k3l⟩ := c3 H9.out.2.2.2.1.a; obtain ⟨k40, k41, k42, _, _, _, k4l⟩ := c3 H9.out.2.2.2.2.1.a; obtain ⟨k50, k51, k52, _, _, _, k5l⟩ := c3 H9.out.2.2.2.2.2.1.a))
    clear H0 H1 H2 H3 H4 H5 H6 H7 H8 HW2 hz1 hz2 hz3 hz4 hz5 hz1' hz2' hz3' hz4' hz5' hbb hW8 HF HL HZ HZ1 HZ2 hz5c
    clear k00 k01 k02 k0l k10 k11 k12 k1l k20 k21 k22 k2l k30 k31 k32 k3l k40 k41 k42 k4l k50 k51 k52 k5l
    have H9S : Bx (BV w9 w.heap.size x p c ∧ BV w9 (w.heap.size + 1) y p' c' ∧ BV w9 zb z q d ∧ BV w9 xb X r e ∧ BV w9 nb y q2 d2 ∧ BV w9 bb x r2 e2 ∧ Below w.heap.size w w9) := ⟨H9.out⟩
    clear H9
    go_loopg [19, 20] ks.length (fun k av iv wr => ∃ i : Nat, k = ks.length - i ∧ i ≤ ks.length ∧ i ≤ os.length ∧ iv = .int .i64 i ∧ av = .bool (apF ks os i) ∧ Bx (BV wr w.heap.size x p c ∧ BV wr (w.heap.size + 1) y p' c' ∧ BV wr zb z q d ∧ BV wr xb X r e ∧ BV wr nb y q2 d2 ∧ BV wr bb x r2 e2 ∧ Below w.heap.size w wr))
    case atStart => exact ⟨0, by simp, by omega, by omega, rfl, rfl, H9S⟩
    case round =>
      clear H9S
      obtain ⟨i, hk, hik, hio, rfl, rfl, H9⟩ := hrel
      by_cases h1 : i < ks.length
      · by_cases h2 : i < os.length
        · obtain ⟨pb, po, hpe, _, hp0, _⟩ := (HP.out _ H9.out.2.2.2.2.2.2).1.at_ i h1
          obtain ⟨qb, qo, hqe, _, hq0, _⟩ := (HP.out _ H9.out.2.2.2.2.2.2).2.at_ i h2
          subst hpe hqe
          have hn : apF ks os (i + 1) = (apF ks os i || (ks[i] != os[i])) := by simp only [apF, List.getD, List.getElem?_eq_getElem h1, List.getElem?_eq_getElem h2, Option.getD_some]
          have HN : Bx _ := ⟨hn⟩
          clear hn
          obtain ⟨ki, hki⟩ : ∃ n, ks[i] = n := ⟨_, rfl⟩
          obtain ⟨oi, hoi⟩ : ∃ n, os[i] = n := ⟨_, rfl⟩
          rw [hki] at hp0 HN
          rw [hoi] at hq0 HN
          clear hki hoi
          have HD : Bx (∀ n, Below wr.heap.size wr (wr.drewN n)) := ⟨fun n => below_drewN (Below.refl _ _) n⟩
          generalize apF ks os i = ap at *
          cases ap
          · go_wp2
            go_quiet (fail)
            go_wp2
            go_roundg (ks.length - (i + 1))
            case measure => omega
            case rel => exact ⟨i + 1, rfl, by omega, by omega, by simp, by rw [HN.out]; simp, ⟨H9.out.1.next (HD.out nq), H9.out.2.1.next (HD.out nq), H9.out.2.2.1.next (HD.out nq), H9.out.2.2.2.1.next (HD.out nq), H9.out.2.2.2.2.1.next (HD.out nq), H9.out.2.2.2.2.2.1.next (HD.out nq), H9.out.2.2.2.2.2.2.trans ((HD.out nq).mono H9.out.2.2.2.2.2.2.size)⟩⟩
          · go_wp2
            go_quiet (fail)
            go_wp2
            go_roundg (ks.length - (i + 1))
            case measure => omega
            case rel => exact ⟨i + 1, rfl, by omega, by omega, by simp, by rw [HN.out]; simp, ⟨H9.out.1.next (HD.out nq), H9.out.2.1.next (HD.out nq), H9.out.2.2.1.next (HD.out nq), H9.out.2.2.2.1.next (HD.out nq), H9.out.2.2.2.2.1.next (HD.out nq), H9.out.2.2.2.2.2.1.next (HD.out nq), H9.out.2.2.2.2.2.2.trans ((HD.out nq).mono H9.out.2.2.2.2.2.2.size)⟩⟩
        · have HA : Bx (apF ks os i = true → findV X os = findV x os) := ⟨fun h => HX.out.2.2.2 (apF_yes (by omega) (by omega) h)⟩
          obtain ⟨kk00, kk01, kk02, _, _, _, kk0l⟩ := c3 H9.out.1.a
          obtain ⟨kk10, kk11, kk12, _, _, _, kk1l⟩ := c3 H9.out.2.1.a
          obtain ⟨kk20, kk21, kk22, _, _, _, kk2l⟩ := c3 H9.out.2.2.1.a
          obtain ⟨kk30, kk31, kk32, _, _, _, kk3l⟩ := c3 H9.out.2.2.2.1.a
          obtain ⟨kk40, kk41, kk42, _, _, _, kk4l⟩ := c3 H9.out.2.2.2.2.1.a
          obtain ⟨kk50, kk51, kk52, _, _, _, kk5l⟩ := c3 H9.out.2.2.2.2.2.1.a
          have HO : Bx (x.sz ≤ 200000 ∧ X.sz ≤ 200000) := ⟨by have := HSUM.out; omega⟩
          have tk : True := trivial
          generalize apF ks os i = ap at *
          cases ap
          · go_wp2_with (first | (go_at_call 22; have _t := tk; clear tk _t; refine Calls.mono (Part_all wr wr.heap.size _ x op oc os H9.out.1.isv (HP.out _ H9.out.2.2.2.2.2.2).2 (Nat.le_refl _) HO.out.1) ?_; rintro e' w10 ⟨u10, rfl, hu10, hb10⟩; generalize (findV x os).getD v0 = a at *; generalize (findV x os).isSome = o1 at *; obtain ⟨q3, d3, rfl⟩ := hu10.form; obtain ⟨ob, hob⟩ : ∃ E, w10.heap.size = E := ⟨_, rfl⟩; obtain ⟨W10, hW10⟩ : ∃ W, w10.alloc (Obj.cells #[.int .i64 a.k, .int .i64 a.n, .slice q3 a.l.length d3] 24) = W := ⟨_, rfl⟩; have bb10 : Below w10.heap.size w10 W10 := (by rw [← hW10]; exact below1 _ _); have bn10 := hb10.trans (bb10.mono hb10.size); have H10 : Bx (BV W10 w.heap.size x p c ∧ BV W10 (w.heap.size + 1) y p' c' ∧ BV W10 zb z q d ∧ BV W10 xb X r e ∧ BV W10 nb y q2 d2 ∧ BV W10 bb x r2 e2 ∧ BV W10 ob a q3 d3 ∧ Below w.heap.size w W10) := ⟨H9.out.1.next bn10, H9.out.2.1.next bn10, H9.out.2.2.1.next bn10, H9.out.2.2.2.1.next bn10, H9.out.2.2.2.2.1.next bn10, H9.out.2.2.2.2.2.1.next bn10, (by rw [← hob, ← hW10]; exact BV.new hu10), H9.out.2.2.2.2.2.2.trans (bn10.mono H9.out.2.2.2.2.2.2.size)⟩; clear hb10 hu10 bb10 bn10; clear kk00 kk01 kk02 kk0l kk10 kk11 kk12 kk1l kk20 kk21 kk22 kk2l kk30 kk31 kk32 kk3l kk40 kk41 kk42 kk4l kk50 kk51 kk52 kk5l; obtain ⟨l00, l01, l02, _, _, _, l0l⟩ := c3 H10.out.1.a; obtain ⟨l10, l11, l12, _, _, _, l1l⟩ := c3 H10.out.2.1.a; obtain ⟨l20, l21, l22, _, _, _, l2l⟩ := c3 H10.out.2.2.1.a; obtain ⟨l30, l31, l32, _, _, _, l3l⟩ := c3 H10.out.2.2.2.1.a; obtain ⟨l40, l41, l42, _, _, _, l4l⟩ := c3 H10.out.2.2.2.2.1.a; obtain ⟨l50, l51, l52, _, _, _, l5l⟩ := c3 H10.out.2.2.2.2.2.1.a; obtain ⟨l60, l61, l62, _, _, _, l6l⟩ := c3 H10.out.2.2.2.2.2.2.1.a) | (go_at_call 22; refine Calls.mono (Part_all W10 W10.heap.size _ X op oc os H10.out.2.2.2.1.isv (HP.out _ H10.out.2.2.2.2.2.2.2).2 (Nat.le_refl _) HO.out.2) ?_; rintro e' w11 ⟨u11, rfl, hu11, hb11⟩; generalize (findV X os).getD v0 = a2 at *; generalize (findV X os).isSome = o2 at *; obtain ⟨q4, d4, rfl⟩ := hu11.form; obtain ⟨tb, htb⟩ : ∃ E, w11.heap.size = E := ⟨_, rfl⟩; obtain ⟨W11, hW11⟩ : ∃ W, w11.alloc (Obj.cells #[.int .i64 a2.k, .int .i64 a2.n, .slice q4 a2.l.length d4] 24) = W := ⟨_, rfl⟩; have bb11 : Below w11.heap.size w11 W11 := (by rw [← hW11]; exact below1 _ _); have bn11 := hb11.trans (bb11.mono hb11.size); have H11 : Bx (BV W11 w.heap.size x p c ∧ BV W11 (w.heap.size + 1) y p' c' ∧ BV W11 zb z q d ∧ BV W11 xb X r e ∧ BV W11 nb y q2 d2 ∧ BV W11 bb x r2 e2 ∧ BV W11 ob a q3 d3 ∧ BV W11 tb a2 q4 d4 ∧ Below w.heap.size w W11) := ⟨H10.out.1.next bn11, H10.out.2.1.next bn11, H10.out.2.2.1.next bn11, H10.out.2.2.2.1.next bn11, H10.out.2.2.2.2.1.next bn11, H10.out.2.2.2.2.2.1.next bn11, H10.out.2.2.2.2.2.2.1.next bn11, (by rw [← htb, ← hW11]; exact BV.new hu11), H10.out.2.2.2.2.2.2.2.trans (bn11.mono H10.out.2.2.2.2.2.2.2.size)⟩; clear hb11 hu11 bb11 bn11; clear l00 l01 l02 l0l l10 l11 l12 l1l l20 l21 l22 l2l l30 l31 l32 l3l l40 l41 l42 l4l l50 l51 l52 l5l l60 l61 l62 l6l; obtain ⟨m00, m01, m02, _, _, _, m0l⟩ := c3 H11.out.1.a; obtain ⟨m10, m11, m12, _, _, _, m1l⟩ := c3 H11.out.2.1.a; obtain ⟨m20, m21, m22, _, _, _, m2l⟩ := c3 H11.out.2.2.1.a; obtain ⟨m30, m31, m32, _, _, _, m3l⟩ := c3 H11.out.2.2.2.1.a; obtain ⟨m40, m41, m42, _, _, _, m4l⟩ := c3 H11.out.2.2.2.2.1.a; obtain ⟨m50, m51, m52, _, _, _, m5l⟩ := c3 H11.out.2.2.2.2.2.1.a; obtain ⟨m60, m61, m62, _, _, _, m6l⟩ := c3 H11.out.2.2.2.2.2.2.1.a; obtain ⟨m70, m71, m72, _, _, _, m7l⟩ := c3 H11.out.2.2.2.2.2.2.2.1.a))
            go_ret
            exact ⟨rfl, H11.out.2.2.2.2.2.2.2.2⟩
          · have HE : Bx (findV X os = findV x os) := ⟨HA.out (by simp)⟩
            have HPX : Bx (∀ W u, IsV W W.heap.size u X → Below w.heap.size w W → Calls Try.prog 22 #[u, .slice op os.length oc] W fun e w' => ∃ u, e = .returned (.tuple #[u, .bool (findV x os).isSome]) ∧ IsV w' w'.heap.size u ((findV x os).getD v0) ∧ Below W.heap.size W w') := ⟨fun W u a1 a2 => by rw [← HE.out]; exact Part_all W W.heap.size u X op oc os a1 (HP.out W a2).2 (Nat.le_refl _) HO.out.2⟩
            have HPV : Bx (∀ W u, IsV W W.heap.size u x → Below w.heap.size w W → Calls Try.prog 22 #[u, .slice op os.length oc] W fun e w' => ∃ u, e = .returned (.tuple #[u, .bool (findV x os).isSome]) ∧ IsV w' w'.heap.size u ((findV x os).getD v0) ∧ Below W.heap.size W w') := ⟨fun W u a1 a2 => Part_all W W.heap.size u x op oc os a1 (HP.out W a2).2 (Nat.le_refl _) HO.out.1⟩
            clear HE HA HX
            generalize (findV x os).getD v0 = a at *
            generalize (findV x os).isSome = o1 at *
            cases o1 <;>
            · go_wp2_with (first | (go_at_call 22; have _t := tk; clear tk _t; refine Calls.mono (HPV.out wr _ H9.out.1.isv H9.out.2.2.2.2.2.2) ?_; rintro e' w10 ⟨u10, rfl, hu10, hb10⟩; obtain ⟨q3, d3, rfl⟩ := hu10.form; obtain ⟨ob, hob⟩ : ∃ E, w10.heap.size = E := ⟨_, rfl⟩; obtain ⟨W10, hW10⟩ : ∃ W, w10.alloc (Obj.cells #[.int .i64 a.k, .int .i64 a.n, .slice q3 a.l.length d3] 24) = W := ⟨_, rfl⟩; have bb10 : Below w10.heap.size w10 W10 := (by rw [← hW10]; exact below1 _ _); have bn10 := hb10.trans (bb10.mono hb10.size); have H10 : Bx (BV W10 w.heap.size x p c ∧ BV W10 (w.heap.size + 1) y p' c' ∧ BV W10 zb z q d ∧ BV W10 xb X r e ∧ BV W10 nb y q2 d2 ∧ BV W10 bb x r2 e2 ∧ BV W10 ob a q3 d3 ∧ Below w.heap.size w W10) := ⟨H9.out.1.next bn10, H9.out.2.1.next bn10, H9.out.2.2.1.next bn10, H9.out.2.2.2.1.next bn10, H9.out.2.2.2.2.1.next bn10, H9.out.2.2.2.2.2.1.next bn10, (by rw [← hob, ← hW10]; exact BV.new hu10), H9.out.2.2.2.2.2.2.trans (bn10.mono H9.out.2.2.2.2.2.2.size)⟩; clear hb10 hu10 bb10 bn10; clear kk00 kk01 kk02 kk0l kk10 kk11 kk12 kk1l kk20 kk21 kk22 kk2l kk30 kk31 kk32 kk3l kk40 kk41 kk42 kk4l kk50 kk51 kk52 kk5l; obtain ⟨l00, l01, l02, _, _, _, l0l⟩ := c3 H10.out.1.a; obtain ⟨l10, l11, l12, _, _, _, l1l⟩ := c3 H10.out.2.1.a; obtain ⟨l20, l21, l22, _, _, _, l2l⟩ := c3 H10.out.2.2.1.a; obtain ⟨l30, l31, l32, _, _, _, l3l⟩ := c3 H10.out.2.2.2.1.a; obtain ⟨l40, l41, l42, _, _, _, l4l⟩ := c3 H10.out.2.2.2.2.1.a; obtain ⟨l50, l51, l52, _, _, _, l5l⟩ := c3 H10.out.2.2.2.2.2.1.a; obtain ⟨l60, l61, l62, _, _, _, l6l⟩ := c3 H10.out.2.2.2.2.2.2.1.a) | (go_at_call 22; refine Calls.mono (HPX.out W10 _ H10.out.2.2.2.1.isv H10.out.2.2.2.2.2.2.2) ?_; rintro e' w11 ⟨u11, rfl, hu11, hb11⟩; obtain ⟨q4, d4, rfl⟩ := hu11.form; obtain ⟨tb, htb⟩ : ∃ E, w11.heap.size = E := ⟨_, rfl⟩; obtain ⟨W11, hW11⟩ : ∃ W, w11.alloc (Obj.cells #[.int .i64 a.k, .int .i64 a.n, .slice q4 a.l.length d4] 24) = W := ⟨_, rfl⟩; have bb11 : Below w11.heap.size w11 W11 := (by rw [← hW11]; exact below1 _ _); have bn11 := hb11.trans (bb11.mono hb11.size); have H11 : Bx (BV W11 w.heap.size x p c ∧ BV W11 (w.heap.size + 1) y p' c' ∧ BV W11 zb z q d ∧ BV W11 xb X r e ∧ BV W11 nb y q2 d2 ∧ BV W11 bb x r2 e2 ∧ BV W11 ob a q3 d3 ∧ BV W11 tb a q4 d4 ∧ Below w.heap.size w W11) := ⟨H10.out.1.next bn11, H10.out.2.1.next bn11, H10.out.2.2.1.next bn11, H10.out.2.2.2.1.next bn11, H10.out.2.2.2.2.1.next bn11, H10.out.2.2.2.2.2.1.next bn11, H10.out.2.2.2.2.2.2.1.next bn11, (by rw [← htb, ← hW11]; exact BV.new hu11), H10.out.2.2.2.2.2.2.2.trans (bn11.mono H10.out.2.2.2.2.2.2.2.size)⟩; clear hb11 hu11 bb11 bn11; clear l00 l01 l02 l0l l10 l11 l12 l1l l20 l21 l22 l2l l30 l31 l32 l3l l40 l41 l42 l4l l50 l51 l52 l5l l60 l61 l62 l6l; obtain ⟨m00, m01, m02, _, _, _, m0l⟩ := c3 H11.out.1.a; obtain ⟨m10, m11, m12, _, _, _, m1l⟩ := c3 H11.out.2.1.a; obtain ⟨m20, m21, m22, _, _, _, m2l⟩ := c3 H11.out.2.2.1.a; obtain ⟨m30, m31, m32, _, _, _, m3l⟩ := c3 H11.out.2.2.2.1.a; obtain ⟨m40, m41, m42, _, _, _, m4l⟩ := c3 H11.out.2.2.2.2.1.a; obtain ⟨m50, m51, m52, _, _, _, m5l⟩ := c3 H11.out.2.2.2.2.2.1.a; obtain ⟨m60, m61, m62, _, _, _, m6l⟩ := c3 H11.out.2.2.2.2.2.2.1.a; obtain ⟨m70, m71, m72, _, _, _, m7l⟩ := c3 H11.out.2.2.2.2.2.2.2.1.a) | (go_at_call 20; refine Calls.mono (same_any W11 W11.heap.size _ _ a a H11.out.2.2.2.2.2.2.1.isv H11.out.2.2.2.2.2.2.2.1.isv (Nat.le_refl _)) ?_; rintro e' w12 ⟨rfl, hb12⟩; rw [eqB_yes (rfl : a = a)]))
              go_ret
              exact ⟨rfl, H11.out.2.2.2.2.2.2.2.2.trans (hb12.mono H11.out.2.2.2.2.2.2.2.2.size)⟩
      · have HA : Bx (apF ks os i = true → findV X os = findV x os) := ⟨fun h => HX.out.2.2.2 (apF_yes (by omega) (by omega) h)⟩
        obtain ⟨kk00, kk01, kk02, _, _, _, kk0l⟩ := c3 H9.out.1.a
        obtain ⟨kk10, kk11, kk12, _, _, _, kk1l⟩ := c3 H9.out.2.1.a
        obtain ⟨kk20, kk21, kk22, _, _, _, kk2l⟩ := c3 H9.out.2.2.1.a
        obtain ⟨kk30, kk31, kk32, _, _, _, kk3l⟩ := c3 H9.out.2.2.2.1.a
        obtain ⟨kk40, kk41, kk42, _, _, _, kk4l⟩ := c3 H9.out.2.2.2.2.1.a
        obtain ⟨kk50, kk51, kk52, _, _, _, kk5l⟩ := c3 H9.out.2.2.2.2.2.1.a
        have HO : Bx (x.sz ≤ 200000 ∧ X.sz ≤ 200000) := ⟨by have := HSUM.out; omega⟩
        have tk : True := trivial
        generalize apF ks os i = ap at *
        cases ap
        · go_wp2_with (first | (go_at_call 22; have _t := tk; clear tk _t; refine Calls.mono (Part_all wr wr.heap.size _ x op oc os H9.out.1.isv (HP.out _ H9.out.2.2.2.2.2.2).2 (Nat.le_refl _) HO.out.1) ?_; rintro e' w10 ⟨u10, rfl, hu10, hb10⟩; generalize (findV x os).getD v0 = a at *; generalize (findV x os).isSome = o1 at *; obtain ⟨q3, d3, rfl⟩ := hu10.form; obtain ⟨ob, hob⟩ : ∃ E, w10.heap.size = E := ⟨_, rfl⟩; obtain ⟨W10, hW10⟩ : ∃ W, w10.alloc (Obj.cells #[.int .i64 a.k, .int .i64 a.n, .slice q3 a.l.length d3] 24) = W := ⟨_, rfl⟩; have bb10 : Below w10.heap.size w10 W10 := (by rw [← hW10]; exact below1 _ _); have bn10 := hb10.trans (bb10.mono hb10.size); have H10 : Bx (BV W10 w.heap.size x p c ∧ BV W10 (w.heap.size + 1) y p' c' ∧ BV W10 zb z q d ∧ BV W10 xb X r e ∧ BV W10 nb y q2 d2 ∧ BV W10 bb x r2 e2 ∧ BV W10 ob a q3 d3 ∧ Below w.heap.size w W10) := ⟨H9.out.1.next bn10, H9.out.2.1.next bn10, H9.out.2.2.1.next bn10, H9.out.2.2.2.1.next bn10, H9.out.2.2.2.2.1.next bn10, H9.out.2.2.2.2.2.1.next bn10, (by rw [← hob, ← hW10]; exact BV.new hu10), H9.out.2.2.2.2.2.2.trans (bn10.mono H9.out.2.2.2.2.2.2.size)⟩; clear hb10 hu10 bb10 bn10; clear kk00 kk01 kk02 kk0l kk10 kk11 kk12 kk1l kk20 kk21 kk22 kk2l kk30 kk31 kk32 kk3l kk40 kk41 kk42 kk4l kk50 kk51 kk52 kk5l; obtain ⟨l00, l01, l02, _, _, _, l0l⟩ := c3 H10.out.1.a; obtain ⟨l10, l11, l12, _, _, _, l1l⟩ := c3 H10.out.2.1.a; obtain ⟨l20, l21, l22, _, _, _, l2l⟩ := c3 H10.out.2.2.1.a; obtain ⟨l30, l31, l32, _, _, _, l3l⟩ := c3 H10.out.2.2.2.1.a; obtain ⟨l40, l41, l42, _, _, _, l4l⟩ := c3 H10.out.2.2.2.2.1.a; obtain ⟨l50, l51, l52, _, _, _, l5l⟩ := c3 H10.out.2.2.2.2.2.1.a; obtain ⟨l60, l61, l62, _, _, _, l6l⟩ := c3 H10.out.2.2.2.2.2.2.1.a) | (go_at_call 22; refine Calls.mono (Part_all W10 W10.heap.size _ X op oc os H10.out.2.2.2.1.isv (HP.out _ H10.out.2.2.2.2.2.2.2).2 (Nat.le_refl _) HO.out.2) ?_; rintro e' w11 ⟨u11, rfl, hu11, hb11⟩; generalize (findV X os).getD v0 = a2 at *; generalize (findV X os).isSome = o2 at *; obtain ⟨q4, d4, rfl⟩ := hu11.form; obtain ⟨tb, htb⟩ : ∃ E, w11.heap.size = E := ⟨_, rfl⟩; obtain ⟨W11, hW11⟩ : ∃ W, w11.alloc (Obj.cells #[.int .i64 a2.k, .int .i64 a2.n, .slice q4 a2.l.length d4] 24) = W := ⟨_, rfl⟩; have bb11 : Below w11.heap.size w11 W11 := (by rw [← hW11]; exact below1 _ _); have bn11 := hb11.trans (bb11.mono hb11.size); have H11 : Bx (BV W11 w.heap.size x p c ∧ BV W11 (w.heap.size + 1) y p' c' ∧ BV W11 zb z q d ∧ BV W11 xb X r e ∧ BV W11 nb y q2 d2 ∧ BV W11 bb x r2 e2 ∧ BV W11 ob a q3 d3 ∧ BV W11 tb a2 q4 d4 ∧ Below w.heap.size w W11) := ⟨H10.out.1.next bn11, H10.out.2.1.next bn11, H10.out.2.2.1.next bn11, H10.out.2.2.2.1.next bn11, H10.out.2.2.2.2.1.next bn11, H10.out.2.2.2.2.2.1.next bn11, H10.out.2.2.2.2.2.2.1.next bn11, (by rw [← htb, ← hW11]; exact BV.new hu11), H10.out.2.2.2.2.2.2.2.trans (bn11.mono H10.out.2.2.2.2.2.2.2.size)⟩; clear hb11 hu11 bb11 bn11; clear l00 l01 l02 l0l l10 l11 l12 l1l l20 l21 l22 l2l l30 l31 l32 l3l l40 l41 l42 l4l l50 l51 l52 l5l l60 l61 l62 l6l; obtain ⟨m00, m01, m02, _, _, _, m0l⟩ := c3 H11.out.1.a; obtain ⟨m10, m11, m12, _, _, _, m1l⟩ := c3 H11.out.2.1.a; obtain ⟨m20, m21, m22, _, _, _, m2l⟩ := c3 H11.out.2.2.1.a; obtain ⟨m30, m31, m32, _, _, _, m3l⟩ := c3 H11.out.2.2.2.1.a; obtain ⟨m40, m41, m42, _, _, _, m4l⟩ := c3 H11.out.2.2.2.2.1.a; obtain ⟨m50, m51, m52, _, _, _, m5l⟩ := c3 H11.out.2.2.2.2.2.1.a; obtain ⟨m60, m61, m62, _, _, _, m6l⟩ := c3 H11.out.2.2.2.2.2.2.1.a; obtain ⟨m70, m71, m72, _, _, _, m7l⟩ := c3 H11.out.2.2.2.2.2.2.2.1.a))
          go_ret
          exact ⟨rfl, H11.out.2.2.2.2.2.2.2.2⟩
        · have HE : Bx (findV X os = findV x os) := ⟨HA.out (by simp)⟩
          have HPX : Bx (∀ W u, IsV W W.heap.size u X → Below w.heap.size w W → Calls Try.prog 22 #[u, .slice op os.length oc] W fun e w' => ∃ u, e = .returned (.tuple #[u, .bool (findV x os).isSome]) ∧ IsV w' w'.heap.size u ((findV x os).getD v0) ∧ Below W.heap.size W w') := ⟨fun W u a1 a2 => by rw [← HE.out]; exact Part_all W W.heap.size u X op oc os a1 (HP.out W a2).2 (Nat.le_refl _) HO.out.2⟩
          have HPV : Bx (∀ W u, IsV W W.heap.size u x → Below w.heap.size w W → Calls Try.prog 22 #[u, .slice op os.length oc] W fun e w' => ∃ u, e = .returned (.tuple #[u, .bool (findV x os).isSome]) ∧ IsV w' w'.heap.size u ((findV x os).getD v0) ∧ Below W.heap.size W w') := ⟨fun W u a1 a2 => Part_all W W.heap.size u x op oc os a1 (HP.out W a2).2 (Nat.le_refl _) HO.out.1⟩
          clear HE HA HX
          generalize (findV x os).getD v0 = a at *
          generalize (findV x os).isSome = o1 at *
          cases o1 <;>
          · go_wp2_with (first | (go_at_call 22; have _t := tk; clear tk _t; refine Calls.mono (HPV.out wr _ H9.out.1.isv H9.out.2.2.2.2.2.2) ?_; rintro e' w10 ⟨u10, rfl, hu10, hb10⟩; obtain ⟨q3, d3, rfl⟩ := hu10.form; obtain ⟨ob, hob⟩ : ∃ E, w10.heap.size = E := ⟨_, rfl⟩; obtain ⟨W10, hW10⟩ : ∃ W, w10.alloc (Obj.cells #[.int .i64 a.k, .int .i64 a.n, .slice q3 a.l.length d3] 24) = W := ⟨_, rfl⟩; have bb10 : Below w10.heap.size w10 W10 := (by rw [← hW10]; exact below1 _ _); have bn10 := hb10.trans (bb10.mono hb10.size); have H10 : Bx (BV W10 w.heap.size x p c ∧ BV W10 (w.heap.size + 1) y p' c' ∧ BV W10 zb z q d ∧ BV W10 xb X r e ∧ BV W10 nb y q2 d2 ∧ BV W10 bb x r2 e2 ∧ BV W10 ob a q3 d3 ∧ Below w.heap.size w W10) := ⟨H9.out.1.next bn10, H9.out.2.1.next bn10, H9.out.2.2.1.next bn10, H9.out.2.2.2.1.next bn10, H9.out.2.2.2.2.1.next bn10, H9.out.2.2.2.2.2.1.next bn10, (by rw [← hob, ← hW10]; exact BV.new hu10), H9.out.2.2.2.2.2.2.trans (bn10.mono H9.out.2.2.2.2.2.2.size)⟩; clear hb10 hu10 bb10 bn10; clear kk00 kk01 kk02 kk0l kk10 kk11 kk12 kk1l kk20 kk21 kk22 kk2l kk30 kk31 kk32 kk3l kk40 kk41 kk42 kk4l kk50 kk51 kk52 kk5l; obtain ⟨l00, l01, l02, _, _, _, l0l⟩ := c3 H10.out.1.a; obtain ⟨l10, l11, l12, _, _, _, l1l⟩ := c3 H10.out.2.1.a; obtain ⟨l20, l21, l22, _, _, _, l2l⟩ := c3 H10.out.2.2.1.a; obtain ⟨l30, l31, l32, _, _, _, l3l⟩ := c3 H10.out.2.2.2.1.a; obtain ⟨l40, l41, l42, _, _, _, l4l⟩ := c3 H10.out.2.2.2.2.1.a; obtain ⟨l50, l51, l52, _, _, _, l5l⟩ := c3 H10.out.2.2.2.2.2.1.a; obtain ⟨l60, l61, l62, _, _, _, l6l⟩ := c3 H10.out.2.2.2.2.2.2.1.a) | (go_at_call 22; refine Calls.mono (HPX.out W10 _ H10.out.2.2.2.1.isv H10.out.2.2.2.2.2.2.2) ?_; rintro e' w11 ⟨u11, rfl, hu11, hb11⟩; obtain ⟨q4, d4, rfl⟩ := hu11.form; obtain ⟨tb, htb⟩ : ∃ E, w11.heap.size = E := ⟨_, rfl⟩; obtain ⟨W11, hW11⟩ : ∃ W, w11.alloc (Obj.cells #[.int .i64 a.k, .int .i64 a.n, .slice q4 a.l.length d4] 24) = W := ⟨_, rfl⟩; have bb11 : Below w11.heap.size w11 W11 := (by rw [← hW11]; exact below1 _ _); have bn11 := hb11.trans (bb11.mono hb11.size); have H11 : Bx (BV W11 w.heap.size x p c ∧ BV W11 (w.heap.size + 1) y p' c' ∧ BV W11 zb z q d ∧ BV W11 xb X r e ∧ BV W11 nb y q2 d2 ∧ BV W11 bb x r2 e2 ∧ BV W11 ob a q3 d3 ∧ BV W11 tb a q4 d4 ∧ Below w.heap.size w W11) := ⟨H10.out.1.next bn11, H10.out.2.1.next bn11, H10.out.2.2.1.next bn11, H10.out.2.2.2.1.next bn11, H10.out.2.2.2.2.1.next bn11, H10.out.2.2.2.2.2.1.next bn11, H10.out.2.2.2.2.2.2.1.next bn11, (by rw [← htb, ← hW11]; exact BV.new hu11), H10.out.2.2.2.2.2.2.2.trans (bn11.mono H10.out.2.2.2.2.2.2.2.size)⟩; clear hb11 hu11 bb11 bn11; clear l00 l01 l02 l0l l10 l11 l12 l1l l20 l21 l22 l2l l30 l31 l32 l3l l40 l41 l42 l4l l50 l51 l52 l5l l60 l61 l62 l6l; obtain ⟨m00, m01, m02, _, _, _, m0l⟩ := c3 H11.out.1.a; obtain ⟨m10, m11, m12, _, _, _, m1l⟩ := c3 H11.out.2.1.a; obtain ⟨m20, m21, m22, _, _, _, m2l⟩ := c3 H11.out.2.2.1.a; obtain ⟨m30, m31, m32, _, _, _, m3l⟩ := c3 H11.out.2.2.2.1.a; obtain ⟨m40, m41, m42, _, _, _, m4l⟩ := c3 H11.out.2.2.2.2.1.a; obtain ⟨m50, m51, m52, _, _, _, m5l⟩ := c3 H11.out.2.2.2.2.2.1.a; obtain ⟨m60, m61, m62, _, _, _, m6l⟩ := c3 H11.out.2.2.2.2.2.2.1.a; obtain ⟨m70, m71, m72, _, _, _, m7l⟩ := c3 H11.out.2.2.2.2.2.2.2.1.a) | (go_at_call 20; refine Calls.mono (same_any W11 W11.heap.size _ _ a a H11.out.2.2.2.2.2.2.1.isv H11.out.2.2.2.2.2.2.2.1.isv (Nat.le_refl _)) ?_; rintro e' w12 ⟨rfl, hb12⟩; rw [eqB_yes (rfl : a = a)]))
            go_ret
            exact ⟨rfl, H11.out.2.2.2.2.2.2.2.2.trans (hb12.mono H11.out.2.2.2.2.2.2.2.2.size)⟩
  · go_ret
    exact ⟨rfl, H3.out.2.2⟩
  · go_ret
    exact ⟨rfl, H2.out.2.2⟩
end Go.Proofs.Ytdhgmeklphcbhaa
