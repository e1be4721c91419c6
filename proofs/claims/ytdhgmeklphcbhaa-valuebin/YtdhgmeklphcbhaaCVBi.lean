import Derived.Test.YtdhgmeklphcbhaaCVSu
import Derived.Test.YtdhgmeklphcbhaaCVBr
import Derived.Test.YtdhgmeklphcbhaaCVGt
namespace Go.Proofs.Ytdhgmeklphcbhaa
open Go.RowKit
set_option linter.unusedVariables false
set_option linter.unusedSimpArgs false

set_option maxRecDepth 100000 in
set_option maxHeartbeats 2000000 in
/-- two that have no lists and are alike -/
theorem same_leaf (w : World) (k n : Int) : Calls Try.prog 20 #[pv k n, pv k n] w fun e w' => e = .returned (.bool true) ∧ Below w.heap.size w w' := by
  go_enter Try.func20, Try.ntmps20
  go_wp2
  go_loopg [5] 0 (fun q v wr => v = .int .i64 0 ∧ wr = (w.alloc (Obj.cells #[.int .i64 k, .int .i64 n, .slice none 0 0] 24)).alloc (Obj.cells #[.int .i64 k, .int .i64 n, .slice none 0 0] 24))
  case atStart => exact ⟨rfl, rfl⟩
  case round =>
    obtain ⟨rfl, rfl⟩ := hrel
    go_wp2
    go_ret
    exact ⟨rfl, two_new _ _ _⟩
theorem tn_right (b : Bool) : rightI 2 (tn b) 0 = true := by cases b <;> simp [rightI, tn]
theorem one_right (n : Int) : rightI 1 n 0 = true := by simp [rightI]
theorem alike_valid {op a b K N : Int} (h : alikeI op a b = (K, N, 0)) : rightI K N 0 = true := by
  unfold alikeI at h
  repeat' split at h
  all_goals (simp only [Prod.mk.injEq] at h; obtain ⟨rfl, rfl, h⟩ := h; first | (exact absurd h (by decide)) | exact tn_right _)
theorem num_valid {op a b K N : Int} (h : numI op a b = (K, N, 0)) : rightI K N 0 = true := by
  unfold numI at h
  repeat' split at h
  all_goals first | exact alike_valid h | (simp only [Prod.mk.injEq] at h; obtain ⟨rfl, rfl, h⟩ := h; first | (exact absurd h (by decide)) | exact one_right _ | exact tn_right _)
theorem bin_valid {op ka a kb b K N : Int} (h : binI op ka a kb b = (K, N, 0)) : rightI K N 0 = true := by
  unfold binI at h
  repeat' split at h
  all_goals first | exact num_valid h | exact alike_valid h | (simp only [Prod.mk.injEq] at h; exact absurd h.2.2 (by decide))
theorem un_valid {op ka a K N : Int} (h : unI op ka a = (K, N, 0)) : rightI K N 0 = true := by
  unfold unI at h
  repeat' split at h
  all_goals (simp only [Prod.mk.injEq] at h; obtain ⟨rfl, rfl, h⟩ := h; first | (exact absurd h (by decide)) | exact one_right _ | exact tn_right _)
theorem leaf_valid {K N : Int} (h : rightI K N 0 = true) : validB (.mk K N []) = true := validB_yes fun y hy => by
  rcases nod_iff.1 hy with rfl | ⟨z, hz, _⟩
  · exact h
  · simp [V.l] at hz
theorem leaf_is {W : World} {B : Nat} {K N : Int} (hK : I64 K) (hN : I64 N) : IsV W B (pv K N) (.mk K N []) := ⟨⟨none, 0, rfl, by simp [V.l, SlV, maxLen]⟩, hK, hN⟩
theorem tn_i64 (b : Bool) : I64 (tn b) := by cases b <;> exact ⟨by simp [tn], by simp [tn]⟩
theorem wrap_i64 (z : Int) : I64 (wrap64 z) := by unfold wrap64; exact ⟨by omega, by omega⟩
theorem k_i64 {k : Int} (h0 : 0 ≤ k) (h1 : k ≤ 9) : I64 k := ⟨by omega, by omega⟩
theorem tmod_le' {a : Int} (b : Int) (h : 0 ≤ a) : a.tmod b ≤ a := by
  obtain ⟨m, rfl⟩ := Int.eq_ofNat_of_zero_le h
  cases b with
  | ofNat n => simp only [Int.tmod]; exact Int.ofNat_le.2 (Nat.mod_le _ _)
  | negSucc n => simp only [Int.tmod]; exact Int.ofNat_le.2 (Nat.mod_le _ _)
theorem mod_i64 {a b : Int} (ha : I64 a) : I64 (a.tmod b) := by
  obtain ⟨h1, h2⟩ := ha
  rcases Int.lt_or_le a 0 with hx | hx
  · have e1 : (-a).tmod b = - a.tmod b := Int.neg_tmod a b
    have e2 := Int.tmod_nonneg (a := -a) b (by omega)
    have e3 : (-a).tmod b ≤ -a := tmod_le' _ (by omega)
    exact ⟨by omega, by omega⟩
  · have e2 := Int.tmod_nonneg (a := a) b hx
    have e3 : a.tmod b ≤ a := tmod_le' _ hx
    exact ⟨by omega, by omega⟩
theorem num_64 {op a b K N T : Int} (ha : I64 a) (h : numI op a b = (K, N, T)) : I64 K ∧ I64 N := by
  unfold numI alikeI at h
  repeat' split at h
  all_goals (simp only [Prod.mk.injEq] at h; obtain ⟨rfl, rfl, _⟩ := h; exact ⟨k_i64 (by decide) (by decide), by first | exact wrap_i64 _ | exact tn_i64 _ | exact mod_i64 ha | exact k_i64 (by decide) (by decide)⟩)
theorem bin_64 {op ka a kb b K N T : Int} (ha : I64 a) (h : binI op ka a kb b = (K, N, T)) : I64 K ∧ I64 N := by
  unfold binI at h
  repeat' split at h
  · simp only [Prod.mk.injEq] at h; obtain ⟨rfl, rfl, _⟩ := h; exact ⟨k_i64 (by decide) (by decide), k_i64 (by decide) (by decide)⟩
  · exact num_64 ha h
  · unfold alikeI at h
    repeat' split at h
    all_goals (simp only [Prod.mk.injEq] at h; obtain ⟨rfl, rfl, _⟩ := h; exact ⟨k_i64 (by decide) (by decide), by first | exact tn_i64 _ | exact k_i64 (by decide) (by decide)⟩)
  · simp only [Prod.mk.injEq] at h; obtain ⟨rfl, rfl, _⟩ := h; exact ⟨k_i64 (by decide) (by decide), k_i64 (by decide) (by decide)⟩
theorem un_64 {op ka a K N T : Int} (h : unI op ka a = (K, N, T)) : I64 K ∧ I64 N := by
  unfold unI at h
  repeat' split at h
  all_goals (simp only [Prod.mk.injEq] at h; obtain ⟨rfl, rfl, _⟩ := h; exact ⟨k_i64 (by decide) (by decide), by first | exact wrap_i64 _ | exact tn_i64 _ | exact k_i64 (by decide) (by decide)⟩)

/-- two arguments in their boxes -/
structure AB (w W : World) (x y : V) (p : Option Addr) (c : Nat) (p' : Option Addr) (c' : Nat) : Prop where
  a : W.heap[w.heap.size]? = some (Obj.cells #[.int .i64 x.k, .int .i64 x.n, .slice p x.l.length c] 24)
  b : W.heap[w.heap.size + 1]? = some (Obj.cells #[.int .i64 y.k, .int .i64 y.n, .slice p' y.l.length c'] 24)
  va : SlV W w.heap.size p c x.l
  vb : SlV W w.heap.size p' c' y.l
  bel : Below w.heap.size w W
theorem AB.next {w W W' : World} {x y : V} {p : Option Addr} {c : Nat} {p' : Option Addr} {c' : Nat} (h : AB w W x y p c p' c') (hb : Below W.heap.size W W') : AB w W' x y p c p' c' :=
  ⟨keep_h hb h.a, keep_h hb h.b, h.va.lo (Lo.of (hb.mono h.bel.size)), h.vb.lo (Lo.of (hb.mono h.bel.size)), h.bel.trans (hb.mono h.bel.size)⟩

set_option maxRecDepth 100000 in
set_option maxHeartbeats 8000000 in
theorem vbin_tt (w : World) (op : Int) (v : Value) (x : V) (hv : IsV w w.heap.size v x) (hlx : Lim x) (u : Value) (y : V) (hu : IsV w w.heap.size u y) (hly : Lim y) (K N T K2 N2 T2 : Int) (hbi : binI op x.k x.n y.k y.n = (K, N, T)) (hun : unI op x.k x.n = (K2, N2, T2)) (h64 : (I64 K ∧ I64 N) ∧ I64 K2 ∧ I64 N2)
    (hT : (T != 0) = true) (hT2 : (T2 != 0) = true)   : Calls Try.prog 6 #[.int .i64 op, v, u] w fun e w' => e = .returned (.bool true) ∧ Below w.heap.size w w' := by
  obtain ⟨⟨p, c, rfl, h1⟩, h2, h3⟩ := hv
  obtain ⟨⟨p', c', rfl, k1⟩, k2, k3⟩ := hu
  have HX : Bx (I64 x.k ∧ I64 x.n ∧ Lim x) := ⟨h2, h3, hlx⟩
  have HY : Bx (I64 y.k ∧ I64 y.n ∧ Lim y) := ⟨k2, k3, hly⟩
  have HBi : Bx _ := ⟨hbi⟩
  have HUn : Bx _ := ⟨hun⟩
  have H64 : Bx _ := ⟨h64⟩
  have HS0 : Bx (AB w ((w.alloc (Obj.cells #[.int .i64 x.k, .int .i64 x.n, .slice p x.l.length c] 24)).alloc (Obj.cells #[.int .i64 y.k, .int .i64 y.n, .slice p' y.l.length c'] 24)) x y p c p' c') :=
    ⟨⟨(Below.heap_alloc _ _ _ (by simp)).trans (World.alloc_heap_new _ _), alloc_at _ _ _, h1.lo (Lo.of (two_new _ _ _)), k1.lo (Lo.of (two_new _ _ _)), two_new _ _ _⟩⟩
  clear h1 h2 h3 k1 k2 k3 hlx hly hbi hun h64 
  have tok1 : True := trivial
  have tok2 : True := trivial
  have tok8 : True := trivial
  have tok9 : True := trivial
  go_enter Try.func6, Try.ntmps6
  go_wp2_with (first | (go_at_call 8; refine (shown_any _).mono ?_; rintro e w1 ⟨rfl, hb1⟩; have HS1 : Bx (AB w w1 x y p c p' c') := ⟨HS0.out.next hb1⟩; clear hb1; obtain ⟨a10, a11, a12, _, _, _, a1l⟩ := c3 HS1.out.a; obtain ⟨b10, b11, b12, _, _, _, b1l⟩ := c3 HS1.out.b) | (go_at_call 9; have _t := tok1; refine Calls.mono (great_any _ w.heap.size _ x ⟨⟨p, c, rfl, HS1.out.va⟩, HX.out.1, HX.out.2.1⟩ HS1.out.bel.size HX.out.2.2) ?_; rintro e w2 ⟨g1, rfl, hz1, hb2⟩; have HS2 : Bx (AB w w2 x y p c p' c') := ⟨HS1.out.next hb2⟩; have HZ1 : Bx (g1 = false → x.sz ≤ 65536) := ⟨hz1⟩; clear hb2 tok1 hz1; clear a10 a11 a12 a1l b10 b11 b12 b1l; obtain ⟨a20, a21, a22, _, _, _, a2l⟩ := c3 HS2.out.a; obtain ⟨b20, b21, b22, _, _, _, b2l⟩ := c3 HS2.out.b; cases g1) | (go_at_call 9; have _t := tok2; refine Calls.mono (great_any _ w.heap.size _ y ⟨⟨p', c', rfl, HS2.out.vb⟩, HY.out.1, HY.out.2.1⟩ HS2.out.bel.size HY.out.2.2) ?_; rintro e w3 ⟨g2, rfl, hz2, hb3⟩; have HS3 : Bx (AB w w3 x y p c p' c') := ⟨HS2.out.next hb3⟩; have HZ2 : Bx (g2 = false → y.sz ≤ 65536) := ⟨hz2⟩; clear hb3 tok2 hz2; clear a20 a21 a22 a2l b20 b21 b22 b2l; obtain ⟨a30, a31, a32, _, _, _, a3l⟩ := c3 HS3.out.a; obtain ⟨b30, b31, b32, _, _, _, b3l⟩ := c3 HS3.out.b; have HQ3 : Bx (Bxs w w3 []) := ⟨⟨fun q hq => (by cases hq), HS3.out.bel⟩⟩; cases g2) | (go_at_call 28; refine Calls.mono (Bin_any op x.k x.n y.k y.n p x.l.length c p' y.l.length c' _) ?_; rintro e w4 ⟨he4, hb4⟩; rw [HBi.out] at he4; simp only [ans, two, pv] at he4; subst he4; have HP4 : Bx (AB w w4 x y p c p' c') := ⟨HS3.out.next hb4⟩; have HR4 : Bx (Bxs w w4 []) := ⟨HQ3.out.next hb4⟩; have HS4 : Bx (AB w (w4.alloc (Obj.cells #[.int .i64 K, .int .i64 N, .slice none 0 0] 24)) x y p c p' c') := ⟨HP4.out.next (below1 _ _)⟩; have HQ4 : Bx (Bxs w (w4.alloc (Obj.cells #[.int .i64 K, .int .i64 N, .slice none 0 0] 24)) [(w4.heap.size, K, N)]) := ⟨HR4.out.push K N⟩; clear hb4; clear a30 a31 a32 a3l b30 b31 b32 b3l; obtain ⟨a40, a41, a42, _, _, _, a4l⟩ := c3 HP4.out.a; obtain ⟨b40, b41, b42, _, _, _, b4l⟩ := c3 HP4.out.b) | (go_at_call 29; refine Calls.mono (Unary_any op x.k x.n p x.l.length c _) ?_; rintro e w5 ⟨he5, hb5⟩; rw [HUn.out] at he5; simp only [ans, two, pv] at he5; subst he5; have HP5 : Bx (AB w w5 x y p c p' c') := ⟨HS4.out.next hb5⟩; have HR5 : Bx (Bxs w w5 [(w4.heap.size, K, N)]) := ⟨HQ4.out.next hb5⟩; have HS5 : Bx (AB w (w5.alloc (Obj.cells #[.int .i64 K2, .int .i64 N2, .slice none 0 0] 24)) x y p c p' c') := ⟨HP5.out.next (below1 _ _)⟩; have HQ5 : Bx (Bxs w (w5.alloc (Obj.cells #[.int .i64 K2, .int .i64 N2, .slice none 0 0] 24)) [(w5.heap.size, K2, N2), (w4.heap.size, K, N)]) := ⟨HR5.out.push K2 N2⟩; clear hb5; clear a40 a41 a42 a4l b40 b41 b42 b4l; obtain ⟨a50, a51, a52, _, _, _, a5l⟩ := c3 HP5.out.a; obtain ⟨b50, b51, b52, _, _, _, b5l⟩ := c3 HP5.out.b) | (go_at_call 30; refine Calls.mono (rBin_any op x.k x.n y.k y.n p x.l.length c p' y.l.length c' _) ?_; rintro e w6 ⟨he6, hb6⟩; rw [HBi.out] at he6; simp only [ans, two, pv] at he6; subst he6; have HP6 : Bx (AB w w6 x y p c p' c') := ⟨HS5.out.next hb6⟩; have HR6 : Bx (Bxs w w6 [(w5.heap.size, K2, N2), (w4.heap.size, K, N)]) := ⟨HQ5.out.next hb6⟩; have HS6 : Bx (AB w (w6.alloc (Obj.cells #[.int .i64 K, .int .i64 N, .slice none 0 0] 24)) x y p c p' c') := ⟨HP6.out.next (below1 _ _)⟩; have HQ6 : Bx (Bxs w (w6.alloc (Obj.cells #[.int .i64 K, .int .i64 N, .slice none 0 0] 24)) [(w6.heap.size, K, N), (w5.heap.size, K2, N2), (w4.heap.size, K, N)]) := ⟨HR6.out.push K N⟩; clear hb6; clear a50 a51 a52 a5l b50 b51 b52 b5l; obtain ⟨a60, a61, a62, _, _, _, a6l⟩ := c3 HP6.out.a; obtain ⟨b60, b61, b62, _, _, _, b6l⟩ := c3 HP6.out.b) | (go_at_call 31; refine Calls.mono (rUnary_any op x.k x.n p x.l.length c _) ?_; rintro e w7 ⟨he7, hb7⟩; rw [HUn.out] at he7; simp only [ans, two, pv] at he7; subst he7; have HP7 : Bx (AB w w7 x y p c p' c') := ⟨HS6.out.next hb7⟩; have HR7 : Bx (Bxs w w7 [(w6.heap.size, K, N), (w5.heap.size, K2, N2), (w4.heap.size, K, N)]) := ⟨HQ6.out.next hb7⟩; have HS7 : Bx (AB w (w7.alloc (Obj.cells #[.int .i64 K2, .int .i64 N2, .slice none 0 0] 24)) x y p c p' c') := ⟨HP7.out.next (below1 _ _)⟩; have HQ7 : Bx (Bxs w (w7.alloc (Obj.cells #[.int .i64 K2, .int .i64 N2, .slice none 0 0] 24)) [(w7.heap.size, K2, N2), (w6.heap.size, K, N), (w5.heap.size, K2, N2), (w4.heap.size, K, N)]) := ⟨HR7.out.push K2 N2⟩; clear hb7; clear a60 a61 a62 a6l b60 b61 b62 b6l; obtain ⟨a70, a71, a72, _, _, _, a7l⟩ := c3 HP7.out.a; obtain ⟨b70, b71, b72, _, _, _, b7l⟩ := c3 HP7.out.b; obtain ⟨x70, x71, x72, x73⟩ := HR7.out.cells (b := w4.heap.size) (k := K) (n := N) (by simp); obtain ⟨u70, u71, u72, u73⟩ := HR7.out.cells (b := w6.heap.size) (k := K) (n := N) (by simp)) | (go_at_call 20; have _t := tok8; refine Calls.mono (same_leaf _ K N) ?_; rintro e w8 ⟨rfl, hb8⟩; have HQ8 : Bx (Bxs w w8 [(w7.heap.size, K2, N2), (w6.heap.size, K, N), (w5.heap.size, K2, N2), (w4.heap.size, K, N)]) := ⟨HQ7.out.next hb8⟩; clear hb8 tok8; obtain ⟨x80, x81, x82, x83⟩ := HQ8.out.cells (b := w5.heap.size) (k := K2) (n := N2) (by simp); obtain ⟨u80, u81, u82, u83⟩ := HQ8.out.cells (b := w7.heap.size) (k := K2) (n := N2) (by simp)) | (go_at_call 20; refine Calls.mono (same_leaf _ K2 N2) ?_; rintro e w9 ⟨rfl, hb9⟩; have HQ9 : Bx (Bxs w w9 [(w7.heap.size, K2, N2), (w6.heap.size, K, N), (w5.heap.size, K2, N2), (w4.heap.size, K, N)]) := ⟨HQ8.out.next hb9⟩; clear hb9; obtain ⟨x90, x91, x92, x93⟩ := HQ9.out.cells (b := w4.heap.size) (k := K) (n := N) (by simp); obtain ⟨u90, u91, u92, u93⟩ := HQ9.out.cells (b := w5.heap.size) (k := K2) (n := N2) (by simp)))
  · go_ret
    exact ⟨rfl, HQ9.out.bel⟩
  · go_ret
    exact ⟨rfl, HS3.out.bel⟩
  · go_ret
    exact ⟨rfl, HS2.out.bel⟩

set_option maxRecDepth 100000 in
set_option maxHeartbeats 8000000 in
theorem vbin_tf (w : World) (op : Int) (v : Value) (x : V) (hv : IsV w w.heap.size v x) (hlx : Lim x) (u : Value) (y : V) (hu : IsV w w.heap.size u y) (hly : Lim y) (K N T K2 N2 T2 : Int) (hbi : binI op x.k x.n y.k y.n = (K, N, T)) (hun : unI op x.k x.n = (K2, N2, T2)) (h64 : (I64 K ∧ I64 N) ∧ I64 K2 ∧ I64 N2)
    (hT : (T != 0) = true) (hT2 : (T2 != 0) = false)  (hv2 : rightI K2 N2 0 = true) : Calls Try.prog 6 #[.int .i64 op, v, u] w fun e w' => e = .returned (.bool true) ∧ Below w.heap.size w w' := by
  obtain ⟨⟨p, c, rfl, h1⟩, h2, h3⟩ := hv
  obtain ⟨⟨p', c', rfl, k1⟩, k2, k3⟩ := hu
  have HX : Bx (I64 x.k ∧ I64 x.n ∧ Lim x) := ⟨h2, h3, hlx⟩
  have HY : Bx (I64 y.k ∧ I64 y.n ∧ Lim y) := ⟨k2, k3, hly⟩
  have HBi : Bx _ := ⟨hbi⟩
  have HUn : Bx _ := ⟨hun⟩
  have H64 : Bx _ := ⟨h64⟩
  have HV2 : Bx _ := ⟨hv2⟩
  have HS0 : Bx (AB w ((w.alloc (Obj.cells #[.int .i64 x.k, .int .i64 x.n, .slice p x.l.length c] 24)).alloc (Obj.cells #[.int .i64 y.k, .int .i64 y.n, .slice p' y.l.length c'] 24)) x y p c p' c') :=
    ⟨⟨(Below.heap_alloc _ _ _ (by simp)).trans (World.alloc_heap_new _ _), alloc_at _ _ _, h1.lo (Lo.of (two_new _ _ _)), k1.lo (Lo.of (two_new _ _ _)), two_new _ _ _⟩⟩
  clear h1 h2 h3 k1 k2 k3 hlx hly hbi hun h64 hv2
  have tok1 : True := trivial
  have tok2 : True := trivial
  have tok8 : True := trivial
  have tok9 : True := trivial
  go_enter Try.func6, Try.ntmps6
  go_wp2_with (first | (go_at_call 8; refine (shown_any _).mono ?_; rintro e w1 ⟨rfl, hb1⟩; have HS1 : Bx (AB w w1 x y p c p' c') := ⟨HS0.out.next hb1⟩; clear hb1; obtain ⟨a10, a11, a12, _, _, _, a1l⟩ := c3 HS1.out.a; obtain ⟨b10, b11, b12, _, _, _, b1l⟩ := c3 HS1.out.b) | (go_at_call 9; have _t := tok1; refine Calls.mono (great_any _ w.heap.size _ x ⟨⟨p, c, rfl, HS1.out.va⟩, HX.out.1, HX.out.2.1⟩ HS1.out.bel.size HX.out.2.2) ?_; rintro e w2 ⟨g1, rfl, hz1, hb2⟩; have HS2 : Bx (AB w w2 x y p c p' c') := ⟨HS1.out.next hb2⟩; have HZ1 : Bx (g1 = false → x.sz ≤ 65536) := ⟨hz1⟩; clear hb2 tok1 hz1; clear a10 a11 a12 a1l b10 b11 b12 b1l; obtain ⟨a20, a21, a22, _, _, _, a2l⟩ := c3 HS2.out.a; obtain ⟨b20, b21, b22, _, _, _, b2l⟩ := c3 HS2.out.b; cases g1) | (go_at_call 9; have _t := tok2; refine Calls.mono (great_any _ w.heap.size _ y ⟨⟨p', c', rfl, HS2.out.vb⟩, HY.out.1, HY.out.2.1⟩ HS2.out.bel.size HY.out.2.2) ?_; rintro e w3 ⟨g2, rfl, hz2, hb3⟩; have HS3 : Bx (AB w w3 x y p c p' c') := ⟨HS2.out.next hb3⟩; have HZ2 : Bx (g2 = false → y.sz ≤ 65536) := ⟨hz2⟩; clear hb3 tok2 hz2; clear a20 a21 a22 a2l b20 b21 b22 b2l; obtain ⟨a30, a31, a32, _, _, _, a3l⟩ := c3 HS3.out.a; obtain ⟨b30, b31, b32, _, _, _, b3l⟩ := c3 HS3.out.b; have HQ3 : Bx (Bxs w w3 []) := ⟨⟨fun q hq => (by cases hq), HS3.out.bel⟩⟩; cases g2) | (go_at_call 28; refine Calls.mono (Bin_any op x.k x.n y.k y.n p x.l.length c p' y.l.length c' _) ?_; rintro e w4 ⟨he4, hb4⟩; rw [HBi.out] at he4; simp only [ans, two, pv] at he4; subst he4; have HP4 : Bx (AB w w4 x y p c p' c') := ⟨HS3.out.next hb4⟩; have HR4 : Bx (Bxs w w4 []) := ⟨HQ3.out.next hb4⟩; have HS4 : Bx (AB w (w4.alloc (Obj.cells #[.int .i64 K, .int .i64 N, .slice none 0 0] 24)) x y p c p' c') := ⟨HP4.out.next (below1 _ _)⟩; have HQ4 : Bx (Bxs w (w4.alloc (Obj.cells #[.int .i64 K, .int .i64 N, .slice none 0 0] 24)) [(w4.heap.size, K, N)]) := ⟨HR4.out.push K N⟩; clear hb4; clear a30 a31 a32 a3l b30 b31 b32 b3l; obtain ⟨a40, a41, a42, _, _, _, a4l⟩ := c3 HP4.out.a; obtain ⟨b40, b41, b42, _, _, _, b4l⟩ := c3 HP4.out.b) | (go_at_call 29; refine Calls.mono (Unary_any op x.k x.n p x.l.length c _) ?_; rintro e w5 ⟨he5, hb5⟩; rw [HUn.out] at he5; simp only [ans, two, pv] at he5; subst he5; have HP5 : Bx (AB w w5 x y p c p' c') := ⟨HS4.out.next hb5⟩; have HR5 : Bx (Bxs w w5 [(w4.heap.size, K, N)]) := ⟨HQ4.out.next hb5⟩; have HS5 : Bx (AB w (w5.alloc (Obj.cells #[.int .i64 K2, .int .i64 N2, .slice none 0 0] 24)) x y p c p' c') := ⟨HP5.out.next (below1 _ _)⟩; have HQ5 : Bx (Bxs w (w5.alloc (Obj.cells #[.int .i64 K2, .int .i64 N2, .slice none 0 0] 24)) [(w5.heap.size, K2, N2), (w4.heap.size, K, N)]) := ⟨HR5.out.push K2 N2⟩; clear hb5; clear a40 a41 a42 a4l b40 b41 b42 b4l; obtain ⟨a50, a51, a52, _, _, _, a5l⟩ := c3 HP5.out.a; obtain ⟨b50, b51, b52, _, _, _, b5l⟩ := c3 HP5.out.b) | (go_at_call 30; refine Calls.mono (rBin_any op x.k x.n y.k y.n p x.l.length c p' y.l.length c' _) ?_; rintro e w6 ⟨he6, hb6⟩; rw [HBi.out] at he6; simp only [ans, two, pv] at he6; subst he6; have HP6 : Bx (AB w w6 x y p c p' c') := ⟨HS5.out.next hb6⟩; have HR6 : Bx (Bxs w w6 [(w5.heap.size, K2, N2), (w4.heap.size, K, N)]) := ⟨HQ5.out.next hb6⟩; have HS6 : Bx (AB w (w6.alloc (Obj.cells #[.int .i64 K, .int .i64 N, .slice none 0 0] 24)) x y p c p' c') := ⟨HP6.out.next (below1 _ _)⟩; have HQ6 : Bx (Bxs w (w6.alloc (Obj.cells #[.int .i64 K, .int .i64 N, .slice none 0 0] 24)) [(w6.heap.size, K, N), (w5.heap.size, K2, N2), (w4.heap.size, K, N)]) := ⟨HR6.out.push K N⟩; clear hb6; clear a50 a51 a52 a5l b50 b51 b52 b5l; obtain ⟨a60, a61, a62, _, _, _, a6l⟩ := c3 HP6.out.a; obtain ⟨b60, b61, b62, _, _, _, b6l⟩ := c3 HP6.out.b) | (go_at_call 31; refine Calls.mono (rUnary_any op x.k x.n p x.l.length c _) ?_; rintro e w7 ⟨he7, hb7⟩; rw [HUn.out] at he7; simp only [ans, two, pv] at he7; subst he7; have HP7 : Bx (AB w w7 x y p c p' c') := ⟨HS6.out.next hb7⟩; have HR7 : Bx (Bxs w w7 [(w6.heap.size, K, N), (w5.heap.size, K2, N2), (w4.heap.size, K, N)]) := ⟨HQ6.out.next hb7⟩; have HS7 : Bx (AB w (w7.alloc (Obj.cells #[.int .i64 K2, .int .i64 N2, .slice none 0 0] 24)) x y p c p' c') := ⟨HP7.out.next (below1 _ _)⟩; have HQ7 : Bx (Bxs w (w7.alloc (Obj.cells #[.int .i64 K2, .int .i64 N2, .slice none 0 0] 24)) [(w7.heap.size, K2, N2), (w6.heap.size, K, N), (w5.heap.size, K2, N2), (w4.heap.size, K, N)]) := ⟨HR7.out.push K2 N2⟩; clear hb7; clear a60 a61 a62 a6l b60 b61 b62 b6l; obtain ⟨a70, a71, a72, _, _, _, a7l⟩ := c3 HP7.out.a; obtain ⟨b70, b71, b72, _, _, _, b7l⟩ := c3 HP7.out.b; obtain ⟨x70, x71, x72, x73⟩ := HR7.out.cells (b := w4.heap.size) (k := K) (n := N) (by simp); obtain ⟨u70, u71, u72, u73⟩ := HR7.out.cells (b := w6.heap.size) (k := K) (n := N) (by simp)) | (go_at_call 20; have _t := tok8; refine Calls.mono (same_leaf _ K N) ?_; rintro e w8 ⟨rfl, hb8⟩; have HQ8 : Bx (Bxs w w8 [(w7.heap.size, K2, N2), (w6.heap.size, K, N), (w5.heap.size, K2, N2), (w4.heap.size, K, N)]) := ⟨HQ7.out.next hb8⟩; clear hb8 tok8; obtain ⟨x80, x81, x82, x83⟩ := HQ8.out.cells (b := w5.heap.size) (k := K2) (n := N2) (by simp); obtain ⟨u80, u81, u82, u83⟩ := HQ8.out.cells (b := w7.heap.size) (k := K2) (n := N2) (by simp)) | (go_at_call 20; refine Calls.mono (same_leaf _ K2 N2) ?_; rintro e w9 ⟨rfl, hb9⟩; have HQ9 : Bx (Bxs w w9 [(w7.heap.size, K2, N2), (w6.heap.size, K, N), (w5.heap.size, K2, N2), (w4.heap.size, K, N)]) := ⟨HQ8.out.next hb9⟩; clear hb9; obtain ⟨x90, x91, x92, x93⟩ := HQ9.out.cells (b := w4.heap.size) (k := K) (n := N) (by simp); obtain ⟨u90, u91, u92, u93⟩ := HQ9.out.cells (b := w5.heap.size) (k := K2) (n := N2) (by simp)) | (go_at_call 12; refine Calls.mono (Valid_any _ 0 _ (.mk K2 N2 []) (leaf_is H64.out.2.1 H64.out.2.2) (by omega) (by simp [V.sz, szs])) ?_; rintro e w11 ⟨he11, hb11⟩; rw [leaf_valid HV2.out] at he11; subst he11; have HQ11 : Bx (Bxs w w11 [(w7.heap.size, K2, N2), (w6.heap.size, K, N), (w5.heap.size, K2, N2), (w4.heap.size, K, N)]) := ⟨HQ9.out.next hb11⟩; clear hb11))
  · go_ret
    exact ⟨rfl, HQ11.out.bel⟩
  · go_ret
    exact ⟨rfl, HS3.out.bel⟩
  · go_ret
    exact ⟨rfl, HS2.out.bel⟩

set_option maxRecDepth 100000 in
set_option maxHeartbeats 8000000 in
theorem vbin_ft (w : World) (op : Int) (v : Value) (x : V) (hv : IsV w w.heap.size v x) (hlx : Lim x) (u : Value) (y : V) (hu : IsV w w.heap.size u y) (hly : Lim y) (K N T K2 N2 T2 : Int) (hbi : binI op x.k x.n y.k y.n = (K, N, T)) (hun : unI op x.k x.n = (K2, N2, T2)) (h64 : (I64 K ∧ I64 N) ∧ I64 K2 ∧ I64 N2)
    (hT : (T != 0) = false) (hT2 : (T2 != 0) = true) (hv1 : rightI K N 0 = true)  : Calls Try.prog 6 #[.int .i64 op, v, u] w fun e w' => e = .returned (.bool true) ∧ Below w.heap.size w w' := by
  obtain ⟨⟨p, c, rfl, h1⟩, h2, h3⟩ := hv
  obtain ⟨⟨p', c', rfl, k1⟩, k2, k3⟩ := hu
  have HX : Bx (I64 x.k ∧ I64 x.n ∧ Lim x) := ⟨h2, h3, hlx⟩
  have HY : Bx (I64 y.k ∧ I64 y.n ∧ Lim y) := ⟨k2, k3, hly⟩
  have HBi : Bx _ := ⟨hbi⟩
  have HUn : Bx _ := ⟨hun⟩
  have H64 : Bx _ := ⟨h64⟩
  have HV1 : Bx _ := ⟨hv1⟩
  have HS0 : Bx (AB w ((w.alloc (Obj.cells #[.int .i64 x.k, .int .i64 x.n, .slice p x.l.length c] 24)).alloc (Obj.cells #[.int .i64 y.k, .int .i64 y.n, .slice p' y.l.length c'] 24)) x y p c p' c') :=
    ⟨⟨(Below.heap_alloc _ _ _ (by simp)).trans (World.alloc_heap_new _ _), alloc_at _ _ _, h1.lo (Lo.of (two_new _ _ _)), k1.lo (Lo.of (two_new _ _ _)), two_new _ _ _⟩⟩
  clear h1 h2 h3 k1 k2 k3 hlx hly hbi hun h64 hv1 
  have tok1 : True := trivial
  have tok2 : True := trivial
  have tok8 : True := trivial
  have tok9 : True := trivial
  go_enter Try.func6, Try.ntmps6
  go_wp2_with (first | (go_at_call 8; refine (shown_any _).mono ?_; rintro e w1 ⟨rfl, hb1⟩; have HS1 : Bx (AB w w1 x y p c p' c') := ⟨HS0.out.next hb1⟩; clear hb1; obtain ⟨a10, a11, a12, _, _, _, a1l⟩ := c3 HS1.out.a; obtain ⟨b10, b11, b12, _, _, _, b1l⟩ := c3 HS1.out.b) | (go_at_call 9; have _t := tok1; refine Calls.mono (great_any _ w.heap.size _ x ⟨⟨p, c, rfl, HS1.out.va⟩, HX.out.1, HX.out.2.1⟩ HS1.out.bel.size HX.out.2.2) ?_; rintro e w2 ⟨g1, rfl, hz1, hb2⟩; have HS2 : Bx (AB w w2 x y p c p' c') := ⟨HS1.out.next hb2⟩; have HZ1 : Bx (g1 = false → x.sz ≤ 65536) := ⟨hz1⟩; clear hb2 tok1 hz1; clear a10 a11 a12 a1l b10 b11 b12 b1l; obtain ⟨a20, a21, a22, _, _, _, a2l⟩ := c3 HS2.out.a; obtain ⟨b20, b21, b22, _, _, _, b2l⟩ := c3 HS2.out.b; cases g1) | (go_at_call 9; have _t := tok2; refine Calls.mono (great_any _ w.heap.size _ y ⟨⟨p', c', rfl, HS2.out.vb⟩, HY.out.1, HY.out.2.1⟩ HS2.out.bel.size HY.out.2.2) ?_; rintro e w3 ⟨g2, rfl, hz2, hb3⟩; have HS3 : Bx (AB w w3 x y p c p' c') := ⟨HS2.out.next hb3⟩; have HZ2 : Bx (g2 = false → y.sz ≤ 65536) := ⟨hz2⟩; clear hb3 tok2 hz2; clear a20 a21 a22 a2l b20 b21 b22 b2l; obtain ⟨a30, a31, a32, _, _, _, a3l⟩ := c3 HS3.out.a; obtain ⟨b30, b31, b32, _, _, _, b3l⟩ := c3 HS3.out.b; have HQ3 : Bx (Bxs w w3 []) := ⟨⟨fun q hq => (by cases hq), HS3.out.bel⟩⟩; cases g2) | (go_at_call 28; refine Calls.mono (Bin_any op x.k x.n y.k y.n p x.l.length c p' y.l.length c' _) ?_; rintro e w4 ⟨he4, hb4⟩; rw [HBi.out] at he4; simp only [ans, two, pv] at he4; subst he4; have HP4 : Bx (AB w w4 x y p c p' c') := ⟨HS3.out.next hb4⟩; have HR4 : Bx (Bxs w w4 []) := ⟨HQ3.out.next hb4⟩; have HS4 : Bx (AB w (w4.alloc (Obj.cells #[.int .i64 K, .int .i64 N, .slice none 0 0] 24)) x y p c p' c') := ⟨HP4.out.next (below1 _ _)⟩; have HQ4 : Bx (Bxs w (w4.alloc (Obj.cells #[.int .i64 K, .int .i64 N, .slice none 0 0] 24)) [(w4.heap.size, K, N)]) := ⟨HR4.out.push K N⟩; clear hb4; clear a30 a31 a32 a3l b30 b31 b32 b3l; obtain ⟨a40, a41, a42, _, _, _, a4l⟩ := c3 HP4.out.a; obtain ⟨b40, b41, b42, _, _, _, b4l⟩ := c3 HP4.out.b) | (go_at_call 29; refine Calls.mono (Unary_any op x.k x.n p x.l.length c _) ?_; rintro e w5 ⟨he5, hb5⟩; rw [HUn.out] at he5; simp only [ans, two, pv] at he5; subst he5; have HP5 : Bx (AB w w5 x y p c p' c') := ⟨HS4.out.next hb5⟩; have HR5 : Bx (Bxs w w5 [(w4.heap.size, K, N)]) := ⟨HQ4.out.next hb5⟩; have HS5 : Bx (AB w (w5.alloc (Obj.cells #[.int .i64 K2, .int .i64 N2, .slice none 0 0] 24)) x y p c p' c') := ⟨HP5.out.next (below1 _ _)⟩; have HQ5 : Bx (Bxs w (w5.alloc (Obj.cells #[.int .i64 K2, .int .i64 N2, .slice none 0 0] 24)) [(w5.heap.size, K2, N2), (w4.heap.size, K, N)]) := ⟨HR5.out.push K2 N2⟩; clear hb5; clear a40 a41 a42 a4l b40 b41 b42 b4l; obtain ⟨a50, a51, a52, _, _, _, a5l⟩ := c3 HP5.out.a; obtain ⟨b50, b51, b52, _, _, _, b5l⟩ := c3 HP5.out.b) | (go_at_call 30; refine Calls.mono (rBin_any op x.k x.n y.k y.n p x.l.length c p' y.l.length c' _) ?_; rintro e w6 ⟨he6, hb6⟩; rw [HBi.out] at he6; simp only [ans, two, pv] at he6; subst he6; have HP6 : Bx (AB w w6 x y p c p' c') := ⟨HS5.out.next hb6⟩; have HR6 : Bx (Bxs w w6 [(w5.heap.size, K2, N2), (w4.heap.size, K, N)]) := ⟨HQ5.out.next hb6⟩; have HS6 : Bx (AB w (w6.alloc (Obj.cells #[.int .i64 K, .int .i64 N, .slice none 0 0] 24)) x y p c p' c') := ⟨HP6.out.next (below1 _ _)⟩; have HQ6 : Bx (Bxs w (w6.alloc (Obj.cells #[.int .i64 K, .int .i64 N, .slice none 0 0] 24)) [(w6.heap.size, K, N), (w5.heap.size, K2, N2), (w4.heap.size, K, N)]) := ⟨HR6.out.push K N⟩; clear hb6; clear a50 a51 a52 a5l b50 b51 b52 b5l; obtain ⟨a60, a61, a62, _, _, _, a6l⟩ := c3 HP6.out.a; obtain ⟨b60, b61, b62, _, _, _, b6l⟩ := c3 HP6.out.b) | (go_at_call 31; refine Calls.mono (rUnary_any op x.k x.n p x.l.length c _) ?_; rintro e w7 ⟨he7, hb7⟩; rw [HUn.out] at he7; simp only [ans, two, pv] at he7; subst he7; have HP7 : Bx (AB w w7 x y p c p' c') := ⟨HS6.out.next hb7⟩; have HR7 : Bx (Bxs w w7 [(w6.heap.size, K, N), (w5.heap.size, K2, N2), (w4.heap.size, K, N)]) := ⟨HQ6.out.next hb7⟩; have HS7 : Bx (AB w (w7.alloc (Obj.cells #[.int .i64 K2, .int .i64 N2, .slice none 0 0] 24)) x y p c p' c') := ⟨HP7.out.next (below1 _ _)⟩; have HQ7 : Bx (Bxs w (w7.alloc (Obj.cells #[.int .i64 K2, .int .i64 N2, .slice none 0 0] 24)) [(w7.heap.size, K2, N2), (w6.heap.size, K, N), (w5.heap.size, K2, N2), (w4.heap.size, K, N)]) := ⟨HR7.out.push K2 N2⟩; clear hb7; clear a60 a61 a62 a6l b60 b61 b62 b6l; obtain ⟨a70, a71, a72, _, _, _, a7l⟩ := c3 HP7.out.a; obtain ⟨b70, b71, b72, _, _, _, b7l⟩ := c3 HP7.out.b; obtain ⟨x70, x71, x72, x73⟩ := HR7.out.cells (b := w4.heap.size) (k := K) (n := N) (by simp); obtain ⟨u70, u71, u72, u73⟩ := HR7.out.cells (b := w6.heap.size) (k := K) (n := N) (by simp)) | (go_at_call 20; have _t := tok8; refine Calls.mono (same_leaf _ K N) ?_; rintro e w8 ⟨rfl, hb8⟩; have HQ8 : Bx (Bxs w w8 [(w7.heap.size, K2, N2), (w6.heap.size, K, N), (w5.heap.size, K2, N2), (w4.heap.size, K, N)]) := ⟨HQ7.out.next hb8⟩; clear hb8 tok8; obtain ⟨x80, x81, x82, x83⟩ := HQ8.out.cells (b := w5.heap.size) (k := K2) (n := N2) (by simp); obtain ⟨u80, u81, u82, u83⟩ := HQ8.out.cells (b := w7.heap.size) (k := K2) (n := N2) (by simp)) | (go_at_call 20; refine Calls.mono (same_leaf _ K2 N2) ?_; rintro e w9 ⟨rfl, hb9⟩; have HQ9 : Bx (Bxs w w9 [(w7.heap.size, K2, N2), (w6.heap.size, K, N), (w5.heap.size, K2, N2), (w4.heap.size, K, N)]) := ⟨HQ8.out.next hb9⟩; clear hb9; obtain ⟨x90, x91, x92, x93⟩ := HQ9.out.cells (b := w4.heap.size) (k := K) (n := N) (by simp); obtain ⟨u90, u91, u92, u93⟩ := HQ9.out.cells (b := w5.heap.size) (k := K2) (n := N2) (by simp)) | (go_at_call 12; have _t := tok9; refine Calls.mono (Valid_any _ 0 _ (.mk K N []) (leaf_is H64.out.1.1 H64.out.1.2) (by omega) (by simp [V.sz, szs])) ?_; rintro e w10 ⟨he10, hb10⟩; rw [leaf_valid HV1.out] at he10; subst he10; have HQ10 : Bx (Bxs w w10 [(w7.heap.size, K2, N2), (w6.heap.size, K, N), (w5.heap.size, K2, N2), (w4.heap.size, K, N)]) := ⟨HQ9.out.next hb10⟩; clear hb10 tok9; obtain ⟨u100, u101, u102, u103⟩ := HQ10.out.cells (b := w5.heap.size) (k := K2) (n := N2) (by simp)))
  · go_ret
    exact ⟨rfl, HQ10.out.bel⟩
  · go_ret
    exact ⟨rfl, HS3.out.bel⟩
  · go_ret
    exact ⟨rfl, HS2.out.bel⟩

set_option maxRecDepth 100000 in
set_option maxHeartbeats 8000000 in
theorem vbin_ff (w : World) (op : Int) (v : Value) (x : V) (hv : IsV w w.heap.size v x) (hlx : Lim x) (u : Value) (y : V) (hu : IsV w w.heap.size u y) (hly : Lim y) (K N T K2 N2 T2 : Int) (hbi : binI op x.k x.n y.k y.n = (K, N, T)) (hun : unI op x.k x.n = (K2, N2, T2)) (h64 : (I64 K ∧ I64 N) ∧ I64 K2 ∧ I64 N2)
    (hT : (T != 0) = false) (hT2 : (T2 != 0) = false) (hv1 : rightI K N 0 = true) (hv2 : rightI K2 N2 0 = true) : Calls Try.prog 6 #[.int .i64 op, v, u] w fun e w' => e = .returned (.bool true) ∧ Below w.heap.size w w' := by
  obtain ⟨⟨p, c, rfl, h1⟩, h2, h3⟩ := hv
  obtain ⟨⟨p', c', rfl, k1⟩, k2, k3⟩ := hu
  have HX : Bx (I64 x.k ∧ I64 x.n ∧ Lim x) := ⟨h2, h3, hlx⟩
  have HY : Bx (I64 y.k ∧ I64 y.n ∧ Lim y) := ⟨k2, k3, hly⟩
  have HBi : Bx _ := ⟨hbi⟩
  have HUn : Bx _ := ⟨hun⟩
  have H64 : Bx _ := ⟨h64⟩
  have HV1 : Bx _ := ⟨hv1⟩
  have HV2 : Bx _ := ⟨hv2⟩
  have HS0 : Bx (AB w ((w.alloc (Obj.cells #[.int .i64 x.k, .int .i64 x.n, .slice p x.l.length c] 24)).alloc (Obj.cells #[.int .i64 y.k, .int .i64 y.n, .slice p' y.l.length c'] 24)) x y p c p' c') :=
    ⟨⟨(Below.heap_alloc _ _ _ (by simp)).trans (World.alloc_heap_new _ _), alloc_at _ _ _, h1.lo (Lo.of (two_new _ _ _)), k1.lo (Lo.of (two_new _ _ _)), two_new _ _ _⟩⟩
  clear h1 h2 h3 k1 k2 k3 hlx hly hbi hun h64 hv1 hv2
  have tok1 : True := trivial
  have tok2 : True := trivial
  have tok8 : True := trivial
  have tok9 : True := trivial
  go_enter Try.func6, Try.ntmps6
  go_wp2_with (first | (go_at_call 8; refine (shown_any _).mono ?_; rintro e w1 ⟨rfl, hb1⟩; have HS1 : Bx (AB w w1 x y p c p' c') := ⟨HS0.out.next hb1⟩; clear hb1; obtain ⟨a10, a11, a12, _, _, _, a1l⟩ := c3 HS1.out.a; obtain ⟨b10, b11, b12, _, _, _, b1l⟩ := c3 HS1.out.b) | (go_at_call 9; have _t := tok1; refine Calls.mono (great_any _ w.heap.size _ x ⟨⟨p, c, rfl, HS1.out.va⟩, HX.out.1, HX.out.2.1⟩ HS1.out.bel.size HX.out.2.2) ?_; rintro e w2 ⟨g1, rfl, hz1, hb2⟩; have HS2 : Bx (AB w w2 x y p c p' c') := ⟨HS1.out.next hb2⟩; have HZ1 : Bx (g1 = false → x.sz ≤ 65536) := ⟨hz1⟩; clear hb2 tok1 hz1; clear a10 a11 a12 a1l b10 b11 b12 b1l; obtain ⟨a20, a21, a22, _, _, _, a2l⟩ := c3 HS2.out.a; obtain ⟨b20, b21, b22, _, _, _, b2l⟩ := c3 HS2.out.b; cases g1) | (go_at_call 9; have _t := tok2; refine Calls.mono (great_any _ w.heap.size _ y ⟨⟨p', c', rfl, HS2.out.vb⟩, HY.out.1, HY.out.2.1⟩ HS2.out.bel.size HY.out.2.2) ?_; rintro e w3 ⟨g2, rfl, hz2, hb3⟩; have HS3 : Bx (AB w w3 x y p c p' c') := ⟨HS2.out.next hb3⟩; have HZ2 : Bx (g2 = false → y.sz ≤ 65536) := ⟨hz2⟩; clear hb3 tok2 hz2; clear a20 a21 a22 a2l b20 b21 b22 b2l; obtain ⟨a30, a31, a32, _, _, _, a3l⟩ := c3 HS3.out.a; obtain ⟨b30, b31, b32, _, _, _, b3l⟩ := c3 HS3.out.b; have HQ3 : Bx (Bxs w w3 []) := ⟨⟨fun q hq => (by cases hq), HS3.out.bel⟩⟩; cases g2) | (go_at_call 28; refine Calls.mono (Bin_any op x.k x.n y.k y.n p x.l.length c p' y.l.length c' _) ?_; rintro e w4 ⟨he4, hb4⟩; rw [HBi.out] at he4; simp only [ans, two, pv] at he4; subst he4; have HP4 : Bx (AB w w4 x y p c p' c') := ⟨HS3.out.next hb4⟩; have HR4 : Bx (Bxs w w4 []) := ⟨HQ3.out.next hb4⟩; have HS4 : Bx (AB w (w4.alloc (Obj.cells #[.int .i64 K, .int .i64 N, .slice none 0 0] 24)) x y p c p' c') := ⟨HP4.out.next (below1 _ _)⟩; have HQ4 : Bx (Bxs w (w4.alloc (Obj.cells #[.int .i64 K, .int .i64 N, .slice none 0 0] 24)) [(w4.heap.size, K, N)]) := ⟨HR4.out.push K N⟩; clear hb4; clear a30 a31 a32 a3l b30 b31 b32 b3l; obtain ⟨a40, a41, a42, _, _, _, a4l⟩ := c3 HP4.out.a; obtain ⟨b40, b41, b42, _, _, _, b4l⟩ := c3 HP4.out.b) | (go_at_call 29; refine Calls.mono (Unary_any op x.k x.n p x.l.length c _) ?_; rintro e w5 ⟨he5, hb5⟩; rw [HUn.out] at he5; simp only [ans, two, pv] at he5; subst he5; have HP5 : Bx (AB w w5 x y p c p' c') := ⟨HS4.out.next hb5⟩; have HR5 : Bx (Bxs w w5 [(w4.heap.size, K, N)]) := ⟨HQ4.out.next hb5⟩; have HS5 : Bx (AB w (w5.alloc (Obj.cells #[.int .i64 K2, .int .i64 N2, .slice none 0 0] 24)) x y p c p' c') := ⟨HP5.out.next (below1 _ _)⟩; have HQ5 : Bx (Bxs w (w5.alloc (Obj.cells #[.int .i64 K2, .int .i64 N2, .slice none 0 0] 24)) [(w5.heap.size, K2, N2), (w4.heap.size, K, N)]) := ⟨HR5.out.push K2 N2⟩; clear hb5; clear a40 a41 a42 a4l b40 b41 b42 b4l; obtain ⟨a50, a51, a52, _, _, _, a5l⟩ := c3 HP5.out.a; obtain ⟨b50, b51, b52, _, _, _, b5l⟩ := c3 HP5.out.b) | (go_at_call 30; refine Calls.mono (rBin_any op x.k x.n y.k y.n p x.l.length c p' y.l.length c' _) ?_; rintro e w6 ⟨he6, hb6⟩; rw [HBi.out] at he6; simp only [ans, two, pv] at he6; subst he6; have HP6 : Bx (AB w w6 x y p c p' c') := ⟨HS5.out.next hb6⟩; have HR6 : Bx (Bxs w w6 [(w5.heap.size, K2, N2), (w4.heap.size, K, N)]) := ⟨HQ5.out.next hb6⟩; have HS6 : Bx (AB w (w6.alloc (Obj.cells #[.int .i64 K, .int .i64 N, .slice none 0 0] 24)) x y p c p' c') := ⟨HP6.out.next (below1 _ _)⟩; have HQ6 : Bx (Bxs w (w6.alloc (Obj.cells #[.int .i64 K, .int .i64 N, .slice none 0 0] 24)) [(w6.heap.size, K, N), (w5.heap.size, K2, N2), (w4.heap.size, K, N)]) := ⟨HR6.out.push K N⟩; clear hb6; clear a50 a51 a52 a5l b50 b51 b52 b5l; obtain ⟨a60, a61, a62, _, _, _, a6l⟩ := c3 HP6.out.a; obtain ⟨b60, b61, b62, _, _, _, b6l⟩ := c3 HP6.out.b) | (go_at_call 31; refine Calls.mono (rUnary_any op x.k x.n p x.l.length c _) ?_; rintro e w7 ⟨he7, hb7⟩; rw [HUn.out] at he7; simp only [ans, two, pv] at he7; subst he7; have HP7 : Bx (AB w w7 x y p c p' c') := ⟨HS6.out.next hb7⟩; have HR7 : Bx (Bxs w w7 [(w6.heap.size, K, N), (w5.heap.size, K2, N2), (w4.heap.size, K, N)]) := ⟨HQ6.out.next hb7⟩; have HS7 : Bx (AB w (w7.alloc (Obj.cells #[.int .i64 K2, .int .i64 N2, .slice none 0 0] 24)) x y p c p' c') := ⟨HP7.out.next (below1 _ _)⟩; have HQ7 : Bx (Bxs w (w7.alloc (Obj.cells #[.int .i64 K2, .int .i64 N2, .slice none 0 0] 24)) [(w7.heap.size, K2, N2), (w6.heap.size, K, N), (w5.heap.size, K2, N2), (w4.heap.size, K, N)]) := ⟨HR7.out.push K2 N2⟩; clear hb7; clear a60 a61 a62 a6l b60 b61 b62 b6l; obtain ⟨a70, a71, a72, _, _, _, a7l⟩ := c3 HP7.out.a; obtain ⟨b70, b71, b72, _, _, _, b7l⟩ := c3 HP7.out.b; obtain ⟨x70, x71, x72, x73⟩ := HR7.out.cells (b := w4.heap.size) (k := K) (n := N) (by simp); obtain ⟨u70, u71, u72, u73⟩ := HR7.out.cells (b := w6.heap.size) (k := K) (n := N) (by simp)) | (go_at_call 20; have _t := tok8; refine Calls.mono (same_leaf _ K N) ?_; rintro e w8 ⟨rfl, hb8⟩; have HQ8 : Bx (Bxs w w8 [(w7.heap.size, K2, N2), (w6.heap.size, K, N), (w5.heap.size, K2, N2), (w4.heap.size, K, N)]) := ⟨HQ7.out.next hb8⟩; clear hb8 tok8; obtain ⟨x80, x81, x82, x83⟩ := HQ8.out.cells (b := w5.heap.size) (k := K2) (n := N2) (by simp); obtain ⟨u80, u81, u82, u83⟩ := HQ8.out.cells (b := w7.heap.size) (k := K2) (n := N2) (by simp)) | (go_at_call 20; refine Calls.mono (same_leaf _ K2 N2) ?_; rintro e w9 ⟨rfl, hb9⟩; have HQ9 : Bx (Bxs w w9 [(w7.heap.size, K2, N2), (w6.heap.size, K, N), (w5.heap.size, K2, N2), (w4.heap.size, K, N)]) := ⟨HQ8.out.next hb9⟩; clear hb9; obtain ⟨x90, x91, x92, x93⟩ := HQ9.out.cells (b := w4.heap.size) (k := K) (n := N) (by simp); obtain ⟨u90, u91, u92, u93⟩ := HQ9.out.cells (b := w5.heap.size) (k := K2) (n := N2) (by simp)) | (go_at_call 12; have _t := tok9; refine Calls.mono (Valid_any _ 0 _ (.mk K N []) (leaf_is H64.out.1.1 H64.out.1.2) (by omega) (by simp [V.sz, szs])) ?_; rintro e w10 ⟨he10, hb10⟩; rw [leaf_valid HV1.out] at he10; subst he10; have HQ10 : Bx (Bxs w w10 [(w7.heap.size, K2, N2), (w6.heap.size, K, N), (w5.heap.size, K2, N2), (w4.heap.size, K, N)]) := ⟨HQ9.out.next hb10⟩; clear hb10 tok9; obtain ⟨u100, u101, u102, u103⟩ := HQ10.out.cells (b := w5.heap.size) (k := K2) (n := N2) (by simp)) | (go_at_call 12; refine Calls.mono (Valid_any _ 0 _ (.mk K2 N2 []) (leaf_is H64.out.2.1 H64.out.2.2) (by omega) (by simp [V.sz, szs])) ?_; rintro e w11 ⟨he11, hb11⟩; rw [leaf_valid HV2.out] at he11; subst he11; have HQ11 : Bx (Bxs w w11 [(w7.heap.size, K2, N2), (w6.heap.size, K, N), (w5.heap.size, K2, N2), (w4.heap.size, K, N)]) := ⟨HQ10.out.next hb11⟩; clear hb11))
  · go_ret
    exact ⟨rfl, HQ11.out.bel⟩
  · go_ret
    exact ⟨rfl, HS3.out.bel⟩
  · go_ret
    exact ⟨rfl, HS2.out.bel⟩

theorem vbin_walk (w : World) (op : Int) (hop : I64 op) (v : Value) (x : V) (hv : IsV w w.heap.size v x) (hlx : Lim x) (u : Value) (y : V) (hu : IsV w w.heap.size u y) (hly : Lim y) : Calls Try.prog 6 #[.int .i64 op, v, u] w fun e w' => e = .returned (.bool true) ∧ Below w.heap.size w w' := by
  obtain ⟨K, N, T, hbi⟩ : ∃ K N T, binI op x.k x.n y.k y.n = (K, N, T) := ⟨_, _, _, rfl⟩
  obtain ⟨K2, N2, T2, hun⟩ : ∃ K N T, unI op x.k x.n = (K, N, T) := ⟨_, _, _, rfl⟩
  have h64 : (I64 K ∧ I64 N) ∧ I64 K2 ∧ I64 N2 := ⟨bin_64 hv.n64 hbi, un_64 hun⟩
  by_cases h1 : T = 0 <;> by_cases h2 : T2 = 0
  · subst h1 h2
    exact vbin_ff w op v x hv hlx u y hu hly K N 0 K2 N2 0 hbi hun h64 rfl rfl (bin_valid hbi) (un_valid hun)
  · subst h1
    exact vbin_ft w op v x hv hlx u y hu hly K N 0 K2 N2 T2 hbi hun h64 rfl (by simpa using h2) (bin_valid hbi)
  · subst h2
    exact vbin_tf w op v x hv hlx u y hu hly K N T K2 N2 0 hbi hun h64 (by simpa using h1) rfl (un_valid hun)
  · exact vbin_tt w op v x hv hlx u y hu hly K N T K2 N2 T2 hbi hun h64 (by simpa using h1) (by simpa using h2)
end Go.Proofs.Ytdhgmeklphcbhaa
