import Derived.Test.YtikijkpklneihaaCVWy
namespace Go.Proofs.Ytikijkpklneihaa
open Go.RowKit
set_option linter.unusedVariables false
set_option linter.unusedSimpArgs false

theorem xo_is {Y : World} {s t : Nat} {x : V} {q : Option Addr} {d : Nat} (h : SpV Y s t x q d ∧ t < Y.heap.size) (hs : x.sz ≤ 65536) (hk : I64 x.k) (hn : I64 x.n) : IsV Y Y.heap.size (agV x.k x.n q x.l.length d) x := ⟨⟨q, d, rfl, (SpV.sl _ h.1 (by omega)).up (by omega)⟩, hk, hn⟩
set_option maxRecDepth 100000 in
set_option maxHeartbeats 8000000 in
theorem parts_walk (w : World) (v : Value) (x : V) (hv : IsV w w.heap.size v x) (hlx : Lim x) (pp : Option Addr) (pc : Nat) (ks : List Int) (hp : Pth w w.heap.size pp pc ks) (u : Value) (y : V) (hu : IsV w w.heap.size u y) (hly : Lim y) (hkl : ks.length ≤ 17592186044000) :
    Calls Try.prog 3 #[v, .slice pp ks.length pc, u] w fun e w' => e = .returned (.bool true) ∧ Below w.heap.size w w' := by
  obtain ⟨⟨p, c, rfl, h1⟩, h2, h3⟩ := hv
  obtain ⟨⟨p', c', rfl, k1⟩, k2, k3⟩ := hu
  have hpl := hp.len
  have hpm := hp.max
  unfold maxLen at hpm
  have HX : Bx (I64 x.k ∧ I64 x.n ∧ Lim x) := ⟨h2, h3, hlx⟩
  have HY : Bx (I64 y.k ∧ I64 y.n ∧ Lim y) := ⟨k2, k3, hly⟩
  obtain ⟨W0, hW0⟩ : ∃ W0, (w.alloc (Obj.cells #[.int .i64 x.k, .int .i64 x.n, .slice p x.l.length c] 24)).alloc (Obj.cells #[.int .i64 y.k, .int .i64 y.n, .slice p' y.l.length c'] 24) = W0 := ⟨_, rfl⟩
  have HS0 : Bx (TwoB w W0 w.heap.size x y p c p' c') :=
    ⟨by rw [← hW0]; exact ⟨(Below.heap_alloc _ _ _ (by simp)).trans (World.alloc_heap_new _ _), alloc_at _ _ _, h1.lo (Lo.of (two_new _ _ _)), k1.lo (Lo.of (two_new _ _ _)), two_new _ _ _⟩⟩
  have HP : Bx (∀ W, Below w.heap.size w W → Pth W w.heap.size pp pc ks) := ⟨fun W hW => hp.lo (Lo.of hW)⟩
  have HKL : Bx (ks.length ≤ 17592186044000) := ⟨hkl⟩
  obtain ⟨A, hA⟩ : ∃ A, prtA x ks = A := ⟨_, rfl⟩
  obtain ⟨Bv, hB⟩ : ∃ Bv, witA x ks y = Bv := ⟨_, rfl⟩
  obtain ⟨ok, hok⟩ : ∃ ok, (findV x ks).isSome = ok := ⟨_, rfl⟩
  have HPT : Bx (x.sz ≤ 65536 → ∀ (Y : World) (xq : Option Addr) (xd g gc : Nat), IsV Y Y.heap.size (agV x.k x.n xq x.l.length xd) x → Pth Y Y.heap.size (some ⟨g, 0, none⟩) gc ks → Calls Try.prog 7 #[agV x.k x.n xq x.l.length xd, .slice (some ⟨g, 0, none⟩) ks.length gc] Y fun e w' => ∃ q c, TupA A ok e q c ∧ (I64 A.k ∧ I64 A.n) ∧ Prv w' Y.heap.size w'.heap.size 0 A q c ∧ Below Y.heap.size Y w') := ⟨fun hx Y xq xd g gc a b => by
    have := Part_all2 Y Y.heap.size _ x _ gc ks a b (Nat.le_refl _) (by omega)
    rwa [hA, hok] at this⟩
  have HWT : Bx (x.sz ≤ 65536 → y.sz ≤ 65536 → ∀ (Y : World) (xq : Option Addr) (xd : Nat) (yq : Option Addr) (yd g gc : Nat), IsV Y Y.heap.size (agV x.k x.n xq x.l.length xd) x → IsV Y Y.heap.size (agV y.k y.n yq y.l.length yd) y → Pth Y Y.heap.size (some ⟨g, 0, none⟩) gc ks → Calls Try.prog 8 #[agV x.k x.n xq x.l.length xd, .slice (some ⟨g, 0, none⟩) ks.length gc, agV y.k y.n yq y.l.length yd] Y fun e w' => ∃ q c, TupA Bv ok e q c ∧ (I64 Bv.k ∧ I64 Bv.n) ∧ Prv w' Y.heap.size w'.heap.size 0 Bv q c ∧ Below Y.heap.size Y w') := ⟨fun hx hy Y xq xd yq yd g gc a b d => by
    have := With_all2 Y Y.heap.size _ _ x y _ gc ks a b d (Nat.le_refl _) (by omega) (by omega)
    rwa [hB, hok] at this⟩
  have HRP : Bx (x.sz ≤ 65536 → ∀ Y, TwoB w Y w.heap.size x y p c p' c' → Calls Try.prog 9 #[agV x.k x.n p x.l.length c, .slice pp ks.length pc] Y fun e w' => ∃ q c, TupA A ok e q c ∧ IsV w' w'.heap.size (agV A.k A.n q A.l.length c) A ∧ Below Y.heap.size Y w') := ⟨fun hx Y hY => by
    refine (rPart_any ks Y w.heap.size (agV x.k x.n p x.l.length c) x pp pc ⟨⟨p, c, rfl, hY.va⟩, h2, h3⟩ (hp.lo (Lo.of hY.bel)) hY.bel.size (by omega)).mono ?_
    intro e w' he
    have := he.all
    rw [show (findV x ks).getD v0 = A from hA, hok] at this
    exact this⟩
  have HRW : Bx (x.sz ≤ 65536 → y.sz ≤ 65536 → ∀ Y, TwoB w Y w.heap.size x y p c p' c' → Calls Try.prog 10 #[agV x.k x.n p x.l.length c, .slice pp ks.length pc, agV y.k y.n p' y.l.length c'] Y fun e w' => ∃ q c, TupA Bv ok e q c ∧ IsV w' w'.heap.size (agV Bv.k Bv.n q Bv.l.length c) Bv ∧ Below Y.heap.size Y w') := ⟨fun hx hy Y hY => by
    refine (rWith_any ks Y w.heap.size (agV x.k x.n p x.l.length c) (agV y.k y.n p' y.l.length c') x y pp pc ⟨⟨p, c, rfl, hY.va⟩, h2, h3⟩ ⟨⟨p', c', rfl, hY.vb⟩, k2, k3⟩ (hp.lo (Lo.of hY.bel)) hY.bel.size (by omega) (by omega)).mono ?_
    intro e w' he
    have := he.all
    rw [show (wzV x ks y).getD v0 = Bv from hB, wz_isSome, hok] at this
    exact this⟩
  have HAB : Bx (A.sz ≤ x.sz ∧ Bv.sz ≤ x.sz + y.sz) := ⟨by rw [← hA]; exact prtA_sz x ks, by rw [← hB]; exact witA_sz x ks y⟩
  clear h1 h2 h3 k1 k2 k3 hlx hly hp hA hB hok hkl
  have tok1 : True := trivial
  go_enter Try.func3, Try.ntmps3
  go_wp2_with (first
    | (go_at_call 4; refine (shown_any _).mono ?_; rintro e w1 ⟨rfl, hb1⟩; have HS1 : Bx (TwoB w w1 w.heap.size x y p c p' c') := ⟨HS0.out.next (Nat.le_refl _) hb1⟩; clear hb1 HS0; obtain ⟨a10, a11, a12, _, _, _, a1l⟩ := c3 HS1.out.a; obtain ⟨b10, b11, b12, _, _, _, b1l⟩ := c3 HS1.out.b)
    | (go_at_call 5; have _t := tok1; refine Calls.mono (great_any _ w.heap.size _ x ⟨⟨p, c, rfl, HS1.out.va⟩, HX.out.1, HX.out.2.1⟩ HS1.out.bel.size HX.out.2.2) ?_; rintro e w2 ⟨g1, rfl, hz1, hb2⟩; have HS2 : Bx (TwoB w w2 w.heap.size x y p c p' c') := ⟨HS1.out.next (Nat.le_refl _) hb2⟩; have HZ1 : Bx (g1 = false → x.sz ≤ 65536) := ⟨hz1⟩; clear hb2 tok1 hz1; clear a10 a11 a12 a1l b10 b11 b12 b1l; obtain ⟨a20, a21, a22, _, _, _, a2l⟩ := c3 HS2.out.a; obtain ⟨b20, b21, b22, _, _, _, b2l⟩ := c3 HS2.out.b; cases g1)
    | (go_at_call 5; refine Calls.mono (great_any _ w.heap.size _ y ⟨⟨p', c', rfl, HS2.out.vb⟩, HY.out.1, HY.out.2.1⟩ HS2.out.bel.size HY.out.2.2) ?_; rintro e w3 ⟨g2, rfl, hz2, hb3⟩; have HS3 : Bx (TwoB w w3 w.heap.size x y p c p' c') := ⟨HS2.out.next (Nat.le_refl _) hb3⟩; have HZ2 : Bx (g2 = false → y.sz ≤ 65536) := ⟨hz2⟩; clear hb3 hz2; clear a20 a21 a22 a2l b20 b21 b22 b2l; obtain ⟨a30, a31, a32, _, _, _, a3l⟩ := c3 HS3.out.a; obtain ⟨b30, b31, b32, _, _, _, b3l⟩ := c3 HS3.out.b; cases g2))
  · have HXS : Bx (x.sz ≤ 65536 ∧ y.sz ≤ 65536) := ⟨HZ1.out (by simp), HZ2.out (by simp)⟩
    obtain ⟨W4, hW4⟩ : ∃ W, w3.alloc (.cells #[.slice none 0 0, .slice none 0 0] 30) = W := ⟨_, rfl⟩
    have E4 : Bx (Below w3.heap.size w3 W4 ∧ W4.heap[w3.heap.size]? = some (.cells #[.slice none 0 0, .slice none 0 0] 30 (0, 0))) := ⟨by rw [← hW4]; exact below1 _ _, by rw [← hW4]; exact World.alloc_heap_new _ _⟩
    have K4 : Bx (∀ Y, Below W4.heap.size W4 Y → TwoB w Y w.heap.size x y p c p' c' ∧ Y.heap[w3.heap.size]? = some (.cells #[.slice none 0 0, .slice none 0 0] 30 (0, 0))) := ⟨fun Y hY => ⟨(HS3.out.next (Nat.le_refl _) E4.out.1).next (Nat.le_refl _) hY, (hY.block _ (heap_lt E4.out.2)).trans E4.out.2⟩⟩
    replace HPT : Bx _ := ⟨HPT.out HXS.out.1⟩
    replace HWT : Bx _ := ⟨HWT.out HXS.out.1 HXS.out.2⟩
    replace HRP : Bx _ := ⟨HRP.out HXS.out.1⟩
    replace HRW : Bx _ := ⟨HRW.out HXS.out.1 HXS.out.2⟩
    clear HZ1 HZ2 a30 a31 a32 a3l b30 b31 b32 b3l HS1 HS2 hW0
    rw [hW4]
    refine Calls.mono (lownP_any W4 w.heap.size _ x ⟨⟨p, c, rfl, (K4.out _ (Below.refl _ _)).1.va⟩, HX.out.1, HX.out.2.1⟩ (K4.out _ (Below.refl _ _)).1.bel.size (by have := HXS.out.1; omega)) ?_
    rintro e w5 ⟨xq, xd, rfl, hsp, _, hb5⟩
    obtain ⟨W5, hW5⟩ : ∃ W, w5.alloc (Obj.cells #[.int .i64 x.k, .int .i64 x.n, .slice xq x.l.length xd] 24) = W := ⟨_, rfl⟩
    have E5 : Bx (w5.alloc (boxO x xq xd) = W5) := ⟨hW5⟩
    have BS5 : Bx (Below W4.heap.size W4 W5) := ⟨by rw [← E5.out]; exact bel_step hb5⟩
    have K5 : Bx (∀ Y, Below W5.heap.size W5 Y → _ ∧ _) := ⟨fun Y hY => And.intro (K4.out Y (bel_to BS5.out hY)) (own_on hsp Y (by rw [E5.out]; exact hY))⟩
    have Z5 : Bx (W4.heap.size ≤ w5.heap.size ∧ W5.heap.size = w5.heap.size + 1) := ⟨hb5.size, by rw [← E5.out]; simp⟩
    clear hsp hb5
    obtain ⟨vb0, vb1, vb2, _, _, _, vbl⟩ := c3 (K5.out _ (Below.refl _ _)).1.1.b
    go_wp2_with fail
    clear vb0 vb1 vb2 vbl
    refine Calls.mono (lownP_any W5 w.heap.size _ y ⟨⟨p', c', rfl, (K5.out _ (Below.refl _ _)).1.1.vb⟩, HY.out.1, HY.out.2.1⟩ (K5.out _ (Below.refl _ _)).1.1.bel.size (by have := HXS.out.2; omega)) ?_
    rintro e w6 ⟨yq, yd, rfl, hsp, _, hb6⟩
    obtain ⟨W6, hW6⟩ : ∃ W, w6.alloc (Obj.cells #[.int .i64 y.k, .int .i64 y.n, .slice yq y.l.length yd] 24) = W := ⟨_, rfl⟩
    have E6 : Bx (w6.alloc (boxO y yq yd) = W6) := ⟨hW6⟩
    have BS6 : Bx (Below W5.heap.size W5 W6) := ⟨by rw [← E6.out]; exact bel_step hb6⟩
    have K6 : Bx (∀ Y, Below W6.heap.size W6 Y → _ ∧ _) := ⟨fun Y hY => And.intro (K5.out Y (bel_to BS6.out hY)) (own_on hsp Y (by rw [E6.out]; exact hY))⟩
    have Z6 : Bx (W5.heap.size ≤ w6.heap.size ∧ W6.heap.size = w6.heap.size + 1) := ⟨hb6.size, by rw [← E6.out]; simp⟩
    clear hsp hb6
    obtain ⟨v1, Wv, g, gc, W7, rw1, rw2, hb7, hpw, hmk, hgc, hgl, hgW⟩ := way_app W6 w.heap.size pp pc ks (HP.out W6 (K6.out _ (Below.refl _ _)).1.1.1.bel) (K6.out _ (Below.refl _ _)).1.1.1.bel.size HKL.out
    have BS7 : Bx (Below W6.heap.size W6 W7) := ⟨hb7⟩
    have K7 : Bx (∀ Y, Below W7.heap.size W7 Y → _ ∧ (Pth Y Y.heap.size (some ⟨g, 0, none⟩) gc ks ∧ Y.cell? ⟨g, ks.length, none⟩ = some (.int .i64 (-77)) ∧ g < W7.heap.size)) := ⟨fun Y hY => And.intro (K6.out Y (bel_to BS7.out hY)) ⟨(hpw.lo (Lo.of hY)).up hY.size, (hY.cell (p := ⟨g, ks.length, none⟩) hgl).trans hmk, hgl⟩⟩
    have hgcm : gc ≤ maxLen := hpw.max
    unfold maxLen at hgcm
    have hkg : (ks.length : Int) ≤ (gc : Int) := by omega
    have hkg0 : (0 : Int) ≤ (ks.length : Int) := by omega
    have HG0 : Bx (W6.heap.size ≤ g) := ⟨hgW⟩
    clear hgW
    have Z7 : Bx (W6.heap.size ≤ W7.heap.size) := ⟨hb7.size⟩
    clear hb7 hpw hmk hgl
    obtain ⟨v50, v51, v52, _, _, _, v5l⟩ := c3 (K7.out _ (Below.refl _ _)).1.1.2.1
    go_wp2_with (first
      | (at_builtin; refine wpList_appI rfl (.tmp 47) (.tmp 48) 25 rfl rfl rfl rw1 ?_; clear rw1)
      | (at_builtin; refine wpList_appI rfl (.tmp 49) (.tmp 50) 25 rfl rfl rfl rw2 ?_; clear rw2))
    clear v50 v51 v52 v5l
    refine Calls.mono (HPT.out W7 xq xd g gc (xo_is (K7.out _ (Below.refl _ _)).1.1.2.2 HXS.out.1 HX.out.1 HX.out.2.1) (K7.out _ (Below.refl _ _)).2.1) ?_
    rintro e w8 ⟨aq, ad, rfl, h64, hpv, hb8⟩
    obtain ⟨W8, hW8⟩ : ∃ W, w8.alloc (Obj.cells #[.int .i64 A.k, .int .i64 A.n, .slice aq A.l.length ad] 24) = W := ⟨_, rfl⟩
    have E8 : Bx (w8.alloc (boxO A aq ad) = W8) := ⟨hW8⟩
    have BS8 : Bx (Below W7.heap.size W7 W8) := ⟨by rw [← E8.out]; exact bel_step hb8⟩
    have K8 : Bx (∀ Y, Below W8.heap.size W8 Y → _ ∧ _) := ⟨fun Y hY => And.intro (K7.out Y (bel_to BS8.out hY)) (prv_on hpv h64 hb8.size Y (by rw [E8.out]; exact hY))⟩
    have Z8 : Bx (W7.heap.size ≤ w8.heap.size ∧ W8.heap.size = w8.heap.size + 1) := ⟨hb8.size, by rw [← E8.out]; simp⟩
    clear h64 hpv hb8
    obtain ⟨v50, v51, v52, _, _, _, v5l⟩ := c3 (K8.out _ (Below.refl _ _)).1.1.1.2.1
    obtain ⟨v60, v61, v62, _, _, _, v6l⟩ := c3 (K8.out _ (Below.refl _ _)).1.1.2.1
    go_wp2_with fail
    clear v50 v51 v52 v5l v60 v61 v62 v6l
    refine Calls.mono (HWT.out W8 xq xd yq yd g gc (xo_is (K8.out _ (Below.refl _ _)).1.1.1.2.2 HXS.out.1 HX.out.1 HX.out.2.1) (xo_is (K8.out _ (Below.refl _ _)).1.1.2.2 HXS.out.2 HY.out.1 HY.out.2.1) (K8.out _ (Below.refl _ _)).1.2.1) ?_
    rintro e w9 ⟨bq, bd, rfl, h64, hpv, hb9⟩
    obtain ⟨W9, hW9⟩ : ∃ W, w9.alloc (Obj.cells #[.int .i64 Bv.k, .int .i64 Bv.n, .slice bq Bv.l.length bd] 24) = W := ⟨_, rfl⟩
    have E9 : Bx (w9.alloc (boxO Bv bq bd) = W9) := ⟨hW9⟩
    have BS9 : Bx (Below W8.heap.size W8 W9) := ⟨by rw [← E9.out]; exact bel_step hb9⟩
    have K9 : Bx (∀ Y, Below W9.heap.size W9 Y → _ ∧ _) := ⟨fun Y hY => And.intro (K8.out Y (bel_to BS9.out hY)) (prv_on hpv h64 hb9.size Y (by rw [E9.out]; exact hY))⟩
    have Z9 : Bx (W8.heap.size ≤ w9.heap.size ∧ W9.heap.size = w9.heap.size + 1) := ⟨hb9.size, by rw [← E9.out]; simp⟩
    clear h64 hpv hb9
    obtain ⟨v50, v51, v52, _, _, _, v5l⟩ := c3 (K9.out _ (Below.refl _ _)).1.1.1.1.2.1
    go_wp2_with fail
    clear v50 v51 v52 v5l
    refine Calls.mono (HPT.out W9 xq xd g gc (xo_is (K9.out _ (Below.refl _ _)).1.1.1.1.2.2 HXS.out.1 HX.out.1 HX.out.2.1) (K9.out _ (Below.refl _ _)).1.1.2.1) ?_
    rintro e w10 ⟨cq, cd, rfl, h64, hpv, hb10⟩
    obtain ⟨W10, hW10⟩ : ∃ W, w10.alloc (Obj.cells #[.int .i64 A.k, .int .i64 A.n, .slice cq A.l.length cd] 24) = W := ⟨_, rfl⟩
    have E10 : Bx (w10.alloc (boxO A cq cd) = W10) := ⟨hW10⟩
    have BS10 : Bx (Below W9.heap.size W9 W10) := ⟨by rw [← E10.out]; exact bel_step hb10⟩
    have K10 : Bx (∀ Y, Below W10.heap.size W10 Y → _ ∧ _) := ⟨fun Y hY => And.intro (K9.out Y (bel_to BS10.out hY)) (prv_on hpv h64 hb10.size Y (by rw [E10.out]; exact hY))⟩
    have Z10 : Bx (W9.heap.size ≤ w10.heap.size ∧ W10.heap.size = w10.heap.size + 1) := ⟨hb10.size, by rw [← E10.out]; simp⟩
    clear h64 hpv hb10
    obtain ⟨v50, v51, v52, _, _, _, v5l⟩ := c3 (K10.out _ (Below.refl _ _)).1.1.1.1.1.2.1
    obtain ⟨v60, v61, v62, _, _, _, v6l⟩ := c3 (K10.out _ (Below.refl _ _)).1.1.1.1.2.1
    go_wp2_with fail
    clear v50 v51 v52 v5l v60 v61 v62 v6l
    refine Calls.mono (HWT.out W10 xq xd yq yd g gc (xo_is (K10.out _ (Below.refl _ _)).1.1.1.1.1.2.2 HXS.out.1 HX.out.1 HX.out.2.1) (xo_is (K10.out _ (Below.refl _ _)).1.1.1.1.2.2 HXS.out.2 HY.out.1 HY.out.2.1) (K10.out _ (Below.refl _ _)).1.1.1.2.1) ?_
    rintro e w11 ⟨dq, dd, rfl, h64, hpv, hb11⟩
    obtain ⟨W11, hW11⟩ : ∃ W, w11.alloc (Obj.cells #[.int .i64 Bv.k, .int .i64 Bv.n, .slice dq Bv.l.length dd] 24) = W := ⟨_, rfl⟩
    have E11 : Bx (w11.alloc (boxO Bv dq dd) = W11) := ⟨hW11⟩
    have BS11 : Bx (Below W10.heap.size W10 W11) := ⟨by rw [← E11.out]; exact bel_step hb11⟩
    have K11 : Bx (∀ Y, Below W11.heap.size W11 Y → _ ∧ _) := ⟨fun Y hY => And.intro (K10.out Y (bel_to BS11.out hY)) (prv_on hpv h64 hb11.size Y (by rw [E11.out]; exact hY))⟩
    have Z11 : Bx (W10.heap.size ≤ w11.heap.size ∧ W11.heap.size = w11.heap.size + 1) := ⟨hb11.size, by rw [← E11.out]; simp⟩
    clear h64 hpv hb11
    obtain ⟨va0, va1, va2, _, _, _, val⟩ := c3 (K11.out _ (Below.refl _ _)).1.1.1.1.1.1.1.1.a
    go_wp2_with fail
    clear va0 va1 va2 val
    refine Calls.mono (HRP.out W11 (K11.out _ (Below.refl _ _)).1.1.1.1.1.1.1.1) ?_
    rintro e w12 ⟨eq9, ed, rfl, hiv, hb12⟩
    obtain ⟨W12, hW12⟩ : ∃ W, w12.alloc (Obj.cells #[.int .i64 A.k, .int .i64 A.n, .slice eq9 A.l.length ed] 24) = W := ⟨_, rfl⟩
    have E12 : Bx (w12.alloc (boxO A eq9 ed) = W12) := ⟨hW12⟩
    have BS12 : Bx (Below W11.heap.size W11 W12) := ⟨by rw [← E12.out]; exact bel_step hb12⟩
    have K12 : Bx (∀ Y, Below W12.heap.size W12 Y → _ ∧ _) := ⟨fun Y hY => And.intro (K11.out Y (bel_to BS12.out hY)) (isv_on hiv Y (by rw [E12.out]; exact hY))⟩
    have Z12 : Bx (W11.heap.size ≤ w12.heap.size ∧ W12.heap.size = w12.heap.size + 1) := ⟨hb12.size, by rw [← E12.out]; simp⟩
    clear hiv hb12
    obtain ⟨va0, va1, va2, _, _, _, val⟩ := c3 (K12.out _ (Below.refl _ _)).1.1.1.1.1.1.1.1.1.a
    obtain ⟨vb0, vb1, vb2, _, _, _, vbl⟩ := c3 (K12.out _ (Below.refl _ _)).1.1.1.1.1.1.1.1.1.b
    go_wp2_with fail
    clear va0 va1 va2 val vb0 vb1 vb2 vbl
    refine Calls.mono (HRW.out W12 (K12.out _ (Below.refl _ _)).1.1.1.1.1.1.1.1.1) ?_
    rintro e w13 ⟨fq, fd, rfl, hiv, hb13⟩
    obtain ⟨W13, hW13⟩ : ∃ W, w13.alloc (Obj.cells #[.int .i64 Bv.k, .int .i64 Bv.n, .slice fq Bv.l.length fd] 24) = W := ⟨_, rfl⟩
    have E13 : Bx (w13.alloc (boxO Bv fq fd) = W13) := ⟨hW13⟩
    have BS13 : Bx (Below W12.heap.size W12 W13) := ⟨by rw [← E13.out]; exact bel_step hb13⟩
    have K13 : Bx (∀ Y, Below W13.heap.size W13 Y → _ ∧ _) := ⟨fun Y hY => And.intro (K12.out Y (bel_to BS13.out hY)) (isv_on hiv Y (by rw [E13.out]; exact hY))⟩
    have Z13 : Bx (W12.heap.size ≤ w13.heap.size ∧ W13.heap.size = w13.heap.size + 1) := ⟨hb13.size, by rw [← E13.out]; simp⟩
    clear hiv hb13
    have ZZ : Bx (w.heap.size + 1 < w3.heap.size ∧ w3.heap.size < W4.heap.size ∧ W4.heap.size ≤ w5.heap.size ∧ w5.heap.size < W5.heap.size ∧ W5.heap.size ≤ w6.heap.size ∧ w6.heap.size < W6.heap.size ∧ W6.heap.size ≤ W7.heap.size ∧ W7.heap.size ≤ w8.heap.size ∧ w8.heap.size < W8.heap.size ∧ W8.heap.size ≤ w9.heap.size ∧ w9.heap.size < W9.heap.size ∧ W9.heap.size ≤ w10.heap.size ∧ w10.heap.size < W10.heap.size ∧ W10.heap.size ≤ w11.heap.size ∧ w11.heap.size < W11.heap.size ∧ W11.heap.size ≤ w12.heap.size ∧ w12.heap.size < W12.heap.size ∧ W12.heap.size ≤ w13.heap.size ∧ w13.heap.size < W13.heap.size) := ⟨by
      have z5 := Z5.out
      have z6 := Z6.out
      have z8 := Z8.out
      have z9 := Z9.out
      have z10 := Z10.out
      have z11 := Z11.out
      have z12 := Z12.out
      have z13 := Z13.out
      have z7 := Z7.out
      have z3 := heap_lt HS3.out.b
      have z4 := heap_lt E4.out.2
      omega⟩
    obtain ⟨n0, n1, n2, n3, n4, n5, n6, n7, n8, n9, n10, n11, n12, n13, n14, n15, n16, n17, n18⟩ := ZZ.out
    have hbk := (K13.out _ (Below.refl _ _)).1.1.1.1.1.1.1.1.1.2
    have HCK13 : Bx (CK W13 W13.heap.size w3.heap.size W7.heap.size W7.heap.size 0 W13) := ⟨CK.start hbk⟩
    have HNO : Bx _ := ⟨no_int hbk⟩
    have hg7 : w3.heap.size < g ∧ g < W7.heap.size := ⟨by have := HG0.out; omega, (K13.out _ (Below.refl _ _)).1.1.1.1.1.1.2.2.2⟩
    have HPX : Bx (PX w x y p c p' c' w5.heap.size w6.heap.size xq xd yq yd W4.heap.size w5.heap.size W5.heap.size w6.heap.size pp pc g gc ks W13) := ⟨⟨(K13.out _ (Below.refl _ _)).1.1.1.1.1.1.1.1.1.1.a, (K13.out _ (Below.refl _ _)).1.1.1.1.1.1.1.1.1.1.b, (K13.out _ (Below.refl _ _)).1.1.1.1.1.1.1.1.2.1, (K13.out _ (Below.refl _ _)).1.1.1.1.1.1.1.2.1, (K13.out _ (Below.refl _ _)).1.1.1.1.1.1.1.1.1.1.va, (K13.out _ (Below.refl _ _)).1.1.1.1.1.1.1.1.1.1.vb, (K13.out _ (Below.refl _ _)).1.1.1.1.1.1.1.1.2.2.1, (K13.out _ (Below.refl _ _)).1.1.1.1.1.1.1.2.2.1, by omega, by omega, by omega, HP.out W13 (K13.out _ (Below.refl _ _)).1.1.1.1.1.1.1.1.1.1.bel, (K13.out _ (Below.refl _ _)).1.1.1.1.1.1.2.1, (K13.out _ (Below.refl _ _)).1.1.1.1.1.1.2.2.1⟩⟩
    have HFX : Bx (∀ Y, FZ W13 W7.heap.size w3.heap.size Y → PX w x y p c p' c' w5.heap.size w6.heap.size xq xd yq yd W4.heap.size w5.heap.size W5.heap.size w6.heap.size pp pc g gc ks Y) := ⟨fun Y f => f.px HPX.out (by omega) (by omega) (by omega) (by omega) (by omega) (by omega) (by omega) (by omega) (by omega) (by omega) (by omega)⟩
    have HFB : Bx (∀ Y, FZ W13 W13.heap.size w3.heap.size Y → Y.heap[w8.heap.size]? = some (boxO A aq ad) ∧ Y.heap[w9.heap.size]? = some (boxO Bv bq bd) ∧ Y.heap[w10.heap.size]? = some (boxO A cq cd) ∧ Y.heap[w11.heap.size]? = some (boxO Bv dq dd) ∧ Y.heap[w12.heap.size]? = some (boxO A eq9 ed) ∧ Y.heap[w13.heap.size]? = some (boxO Bv fq fd)) := ⟨fun Y f => ⟨f.box (K13.out _ (Below.refl _ _)).1.1.1.1.1.2.1 (by omega) (by omega), f.box (K13.out _ (Below.refl _ _)).1.1.1.1.2.1 (by omega) (by omega), f.box (K13.out _ (Below.refl _ _)).1.1.1.2.1 (by omega) (by omega), f.box (K13.out _ (Below.refl _ _)).1.1.2.1 (by omega) (by omega), f.box (K13.out _ (Below.refl _ _)).1.2.1 (by omega) (by omega), f.box (K13.out _ (Below.refl _ _)).2.1 (by omega) (by omega)⟩⟩
    have HBL : Bx (Below w.heap.size w W13) := ⟨(K13.out _ (Below.refl _ _)).1.1.1.1.1.1.1.1.1.1.bel⟩
    have HK14 : Bx _ := ⟨HCK13.out.keep (by omega) (K13.out _ (Below.refl _ _)).1.1.1.1.1.2.2.2.2.1.1 (K13.out _ (Below.refl _ _)).1.1.1.1.1.2.2.2.2.1.2 (K13.out _ (Below.refl _ _)).1.1.1.1.1.2.2.1 (by omega) (by omega) (by omega) (by omega) (by omega) HNO.out (K13.out _ (Below.refl _ _)).1.2.2.1 (by have h1 := HAB.out; have h2 := HXS.out; omega)⟩
    have HR15 : Bx (∀ Y, CK W13 W13.heap.size w3.heap.size W7.heap.size w8.heap.size 1 Y → Calls Try.prog 11 #[.pointer (some ⟨w3.heap.size, 0, none⟩), agV Bv.k Bv.n bq Bv.l.length bd, agV Bv.k Bv.n fq Bv.l.length fd] Y fun e w' => e = .returned (.bool true) ∧ Bx (CK W13 W13.heap.size w3.heap.size W7.heap.size w9.heap.size (1 + 1) w')) := ⟨fun Y hY => hY.keep (by omega) (K13.out _ (Below.refl _ _)).1.1.1.1.2.2.2.2.1.1 (K13.out _ (Below.refl _ _)).1.1.1.1.2.2.2.2.1.2 (K13.out _ (Below.refl _ _)).1.1.1.1.2.2.1 (by omega) (by omega) (by omega) (by omega) (by omega) HNO.out (K13.out _ (Below.refl _ _)).2.2.1 (by have h1 := HAB.out; have h2 := HXS.out; omega)⟩
    have HR16 : Bx (∀ Y, CK W13 W13.heap.size w3.heap.size W7.heap.size w9.heap.size (1 + 1) Y → Calls Try.prog 11 #[.pointer (some ⟨w3.heap.size, 0, none⟩), agV A.k A.n cq A.l.length cd, agV A.k A.n eq9 A.l.length ed] Y fun e w' => e = .returned (.bool true) ∧ Bx (CK W13 W13.heap.size w3.heap.size W7.heap.size w10.heap.size (1 + 1 + 1) w')) := ⟨fun Y hY => hY.keep (by omega) (K13.out _ (Below.refl _ _)).1.1.1.2.2.2.2.1.1 (K13.out _ (Below.refl _ _)).1.1.1.2.2.2.2.1.2 (K13.out _ (Below.refl _ _)).1.1.1.2.2.1 (by omega) (by omega) (by omega) (by omega) (by omega) HNO.out (K13.out _ (Below.refl _ _)).1.2.2.1 (by have h1 := HAB.out; have h2 := HXS.out; omega)⟩
    have HR17 : Bx (∀ Y, CK W13 W13.heap.size w3.heap.size W7.heap.size w10.heap.size (1 + 1 + 1) Y → Calls Try.prog 11 #[.pointer (some ⟨w3.heap.size, 0, none⟩), agV Bv.k Bv.n dq Bv.l.length dd, agV Bv.k Bv.n fq Bv.l.length fd] Y fun e w' => e = .returned (.bool true) ∧ Bx (CK W13 W13.heap.size w3.heap.size W7.heap.size w11.heap.size (1 + 1 + 1 + 1) w')) := ⟨fun Y hY => hY.keep (by omega) (K13.out _ (Below.refl _ _)).1.1.2.2.2.2.1.1 (K13.out _ (Below.refl _ _)).1.1.2.2.2.2.1.2 (K13.out _ (Below.refl _ _)).1.1.2.2.1 (by omega) (by omega) (by omega) (by omega) (by omega) HNO.out (K13.out _ (Below.refl _ _)).2.2.1 (by have h1 := HAB.out; have h2 := HXS.out; omega)⟩
    have hokk : (ok == ok) = true := by simp
    clear n0 n1 n2 n3 n4 n5 n6 n7 n8 n9 n10 n11 n12 n13 n14 n15 n16 n17 n18 hbk hg7
    obtain ⟨v80, v81, v82, _, _, _, v8l⟩ := c3 (HFB.out _ FZ.refl).1
    obtain ⟨v120, v121, v122, _, _, _, v12l⟩ := c3 (HFB.out _ FZ.refl).2.2.2.2.1
    go_wp2_with fail
    clear v80 v81 v82 v8l v120 v121 v122 v12l
    refine Calls.mono (HK14.out) ?_
    rintro e w14 ⟨rfl, HCK14⟩
    obtain ⟨v90, v91, v92, _, _, _, v9l⟩ := c3 (HFB.out _ HCK14.out.fz).2.1
    obtain ⟨v130, v131, v132, _, _, _, v13l⟩ := c3 (HFB.out _ HCK14.out.fz).2.2.2.2.2
    go_wp2_with fail
    clear v90 v91 v92 v9l v130 v131 v132 v13l
    refine Calls.mono (HR15.out _ HCK14.out) ?_
    rintro e w15 ⟨rfl, HCK15⟩
    obtain ⟨v100, v101, v102, _, _, _, v10l⟩ := c3 (HFB.out _ HCK15.out.fz).2.2.1
    obtain ⟨v120, v121, v122, _, _, _, v12l⟩ := c3 (HFB.out _ HCK15.out.fz).2.2.2.2.1
    go_wp2_with fail
    clear v100 v101 v102 v10l v120 v121 v122 v12l
    refine Calls.mono (HR16.out _ HCK15.out) ?_
    rintro e w16 ⟨rfl, HCK16⟩
    obtain ⟨v110, v111, v112, _, _, _, v11l⟩ := c3 (HFB.out _ HCK16.out.fz).2.2.2.1
    obtain ⟨v130, v131, v132, _, _, _, v13l⟩ := c3 (HFB.out _ HCK16.out.fz).2.2.2.2.2
    go_wp2_with fail
    clear v110 v111 v112 v11l v130 v131 v132 v13l
    refine Calls.mono (HR17.out _ HCK16.out) ?_
    rintro e w17 ⟨rfl, HCK17⟩
    have HLE : Bx (W7.heap.size ≤ W13.heap.size) := ⟨by have := ZZ.out; omega⟩
    have P17 : Bx _ := ⟨HFX.out _ (HCK17.out.fz.low HLE.out)⟩
    obtain ⟨uxa0, uxa1, uxa2, _, _, _, uxal⟩ := c3 P17.out.xa
    obtain ⟨ua0, ua1, ua2, _, _, _, ual⟩ := c3 P17.out.a
    have HM17 : Bx (Calls Try.prog 12 #[agV x.k x.n xq x.l.length xd, agV x.k x.n p x.l.length c] w17 fun e w' => e = .returned (.bool true) ∧ Below w17.heap.size w17 w') := ⟨(eqB_yes (rfl : x = x)) ▸ same_any w17 w17.heap.size (agV x.k x.n xq x.l.length xd) (agV x.k x.n p x.l.length c) x x ((P17.out).ox HXS.out.1 HX.out.1 HX.out.2.1) ((P17.out).vx HX.out.1 HX.out.2.1) (Nat.le_refl _)⟩
    go_wp2_with fail
    clear uxa0 uxa1 uxa2 uxal ua0 ua1 ua2 ual
    refine Calls.mono (HM17.out) ?_
    rintro e w18 ⟨rfl, hb18⟩
    have HCK18 : Bx _ := ⟨HCK17.out.next hb18⟩
    clear hb18 HM17
    have P18 : Bx _ := ⟨HFX.out _ (HCK18.out.fz.low HLE.out)⟩
    obtain ⟨uya0, uya1, uya2, _, _, _, uyal⟩ := c3 P18.out.ya
    obtain ⟨ub0, ub1, ub2, _, _, _, ubl⟩ := c3 P18.out.b
    have HM18 : Bx (Calls Try.prog 12 #[agV y.k y.n yq y.l.length yd, agV y.k y.n p' y.l.length c'] w18 fun e w' => e = .returned (.bool true) ∧ Below w18.heap.size w18 w') := ⟨(eqB_yes (rfl : y = y)) ▸ same_any w18 w18.heap.size (agV y.k y.n yq y.l.length yd) (agV y.k y.n p' y.l.length c') y y ((P18.out).oy HXS.out.2 HY.out.1 HY.out.2.1) ((P18.out).vy HY.out.1 HY.out.2.1) (Nat.le_refl _)⟩
    go_wp2_with fail
    clear uya0 uya1 uya2 uyal ub0 ub1 ub2 ubl
    refine Calls.mono (HM18.out) ?_
    rintro e w19 ⟨rfl, hb19⟩
    have HCK19 : Bx _ := ⟨HCK18.out.next hb19⟩
    clear hb19 HM18
    have P19 : Bx _ := ⟨HFX.out _ (HCK19.out.fz.low HLE.out)⟩
    obtain ⟨uxa0, uxa1, uxa2, _, _, _, uxal⟩ := c3 P19.out.xa
    go_wp2_with fail
    clear uxa0 uxa1 uxa2 uxal
    refine Calls.mono (spare_any w19 W4.heap.size w5.heap.size x xq xd P19.out.xs (Nat.le_of_lt P19.out.txl) HXS.out.1) ?_
    rintro e w20 ⟨rfl, hb20⟩
    have HCK20 : Bx _ := ⟨HCK19.out.next hb20⟩
    clear hb20
    have P20 : Bx _ := ⟨HFX.out _ (HCK20.out.fz.low HLE.out)⟩
    obtain ⟨uya0, uya1, uya2, _, _, _, uyal⟩ := c3 P20.out.ya
    go_wp2_with fail
    clear uya0 uya1 uya2 uyal
    refine Calls.mono (spare_any w20 W5.heap.size w6.heap.size y yq yd P20.out.ys (Nat.le_of_lt P20.out.tyl) HXS.out.2) ?_
    rintro e w21 ⟨rfl, hb21⟩
    have HCK21 : Bx _ := ⟨HCK20.out.next hb21⟩
    clear hb21
    have P21 : Bx _ := ⟨HFX.out _ (HCK21.out.fz.low HLE.out)⟩
    go_wp2_with fail
    refine Calls.mono (numbers_yes w21 w21.heap.size ks (some ⟨g, 0, none⟩) gc pp pc P21.out.inn (P21.out.path.up P21.out.wp)) ?_
    rintro e w22 ⟨rfl, hb22⟩
    have HCK22 : Bx _ := ⟨HCK21.out.next hb22⟩
    clear hb22
    have P22 : Bx _ := ⟨HFX.out _ (HCK22.out.fz.low HLE.out)⟩
    have umk := P22.out.mrk
    have hlt1 : (ks.length : Int) < (ks.length : Int) + 1 := by omega
    have hlt2 : ks.length < ks.length + 1 := by omega
    have hlt3 : (ks.length : Int) < ((ks.length + 1 : Nat) : Int) := by omega
    go_wp2_with fail
    clear umk
    refine Calls.mono (HCK22.out.spoil (by omega) HLE.out) ?_
    rintro e w23 ⟨rfl, hF23⟩
    have P23 : Bx _ := ⟨HFX.out _ hF23.out⟩
    obtain ⟨uxa0, uxa1, uxa2, _, _, _, uxal⟩ := c3 P23.out.xa
    obtain ⟨ua0, ua1, ua2, _, _, _, ual⟩ := c3 P23.out.a
    have HM23 : Bx (Calls Try.prog 12 #[agV x.k x.n xq x.l.length xd, agV x.k x.n p x.l.length c] w23 fun e w' => e = .returned (.bool true) ∧ Below w23.heap.size w23 w') := ⟨(eqB_yes (rfl : x = x)) ▸ same_any w23 w23.heap.size (agV x.k x.n xq x.l.length xd) (agV x.k x.n p x.l.length c) x x ((P23.out).ox HXS.out.1 HX.out.1 HX.out.2.1) ((P23.out).vx HX.out.1 HX.out.2.1) (Nat.le_refl _)⟩
    go_wp2_with fail
    clear uxa0 uxa1 uxa2 uxal ua0 ua1 ua2 ual
    refine Calls.mono (HM23.out) ?_
    rintro e w24 ⟨rfl, hb24⟩
    have HF24 : Bx _ := ⟨hF23.out.next hb24⟩
    clear hb24 HM23
    have P24 : Bx _ := ⟨HFX.out _ HF24.out⟩
    obtain ⟨uya0, uya1, uya2, _, _, _, uyal⟩ := c3 P24.out.ya
    obtain ⟨ub0, ub1, ub2, _, _, _, ubl⟩ := c3 P24.out.b
    have HM24 : Bx (Calls Try.prog 12 #[agV y.k y.n yq y.l.length yd, agV y.k y.n p' y.l.length c'] w24 fun e w' => e = .returned (.bool true) ∧ Below w24.heap.size w24 w') := ⟨(eqB_yes (rfl : y = y)) ▸ same_any w24 w24.heap.size (agV y.k y.n yq y.l.length yd) (agV y.k y.n p' y.l.length c') y y ((P24.out).oy HXS.out.2 HY.out.1 HY.out.2.1) ((P24.out).vy HY.out.1 HY.out.2.1) (Nat.le_refl _)⟩
    go_wp2_with fail
    clear uya0 uya1 uya2 uyal ub0 ub1 ub2 ubl
    refine Calls.mono (HM24.out) ?_
    rintro e w25 ⟨rfl, hb25⟩
    have HE25 : Bx (Below w.heap.size w w25) := ⟨(HF24.out.next hb25).below HBL.out (by have := ZZ.out; omega) (by have := ZZ.out; omega)⟩
    clear hb25 HM24
    go_wp2
    go_ret
    exact ⟨rfl, HE25.out⟩
  · go_ret
    exact ⟨rfl, HS3.out.bel⟩
  · go_ret
    exact ⟨rfl, HS2.out.bel⟩
end Go.Proofs.Ytikijkpklneihaa
