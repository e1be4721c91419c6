import Derived.Test.YtdhgmeklphcbhaaCVSe
import Derived.Test.YtdhgmeklphcbhaaCVSr
import Derived.Test.YtdhgmeklphcbhaaCVSp
import Derived.Test.YtdhgmeklphcbhaaCVCr
import Derived.Deep.RegionHeld
namespace Go.Proofs.Ytdhgmeklphcbhaa
open Go.RowKit
set_option linter.unusedVariables false
set_option linter.unusedSimpArgs false

/-- a value of one's own in a box -/
structure TX (w W : World) (x : V) (xb : Nat) (q : Option Addr) (d : Nat) : Prop where
  a : W.heap[xb]? = some (Obj.cells #[.int .i64 x.k, .int .i64 x.n, .slice q x.l.length d] 24)
  s : SpV W w.heap.size W.heap.size x q d
theorem TX.next {w W W' : World} {x : V} {xb : Nat} {q : Option Addr} {d : Nat} (h : TX w W x xb q d) (hb : Below W.heap.size W W') : TX w W' x xb q d :=
  ⟨keep_h hb h.a, SpV.up (Nat.le_refl _) hb.size _ (SpV.mid ⟨fun b o _ h2 => hb.cell (p := ⟨b, o, none⟩) h2⟩ _ h.s)⟩
theorem TX.new {w W3 W4 : World} {x : V} {q : Option Addr} {d : Nat} (h3 : w.heap.size ≤ W3.heap.size) (hs : SpV W4 W3.heap.size W4.heap.size x q d) : TX w (W4.alloc (Obj.cells #[.int .i64 x.k, .int .i64 x.n, .slice q x.l.length d] 24)) x W4.heap.size q d :=
  ⟨World.alloc_heap_new _ _, SpV.up h3 (below1 _ _).size _ (SpV.mid ⟨fun b o _ h2 => (below1 W4 _).cell (p := ⟨b, o, none⟩) h2⟩ _ hs)⟩
theorem TX.is {w W : World} {x : V} {xb : Nat} {q : Option Addr} {d : Nat} (h : TX w W x xb q d) (hx : x.sz ≤ 65536) (hk : I64 x.k ∧ I64 x.n) : IsV W W.heap.size (.agg #[.int .i64 x.k, .int .i64 x.n, .slice q x.l.length d]) x :=
  ⟨⟨q, d, rfl, SpV.sl _ h.s (by omega)⟩, hk.1, hk.2⟩
/-- all four -/
structure TS (w W : World) (x y : V) (p : Option Addr) (c : Nat) (p' : Option Addr) (c' : Nat) (xb : Nat) (q : Option Addr) (d : Nat) (yb : Nat) (q' : Option Addr) (d' : Nat) : Prop where
  ab : TwoB w W w.heap.size x y p c p' c'
  x : TX w W x xb q d
  y : TX w W y yb q' d'
theorem TS.next {w W W' : World} {x y : V} {p : Option Addr} {c : Nat} {p' : Option Addr} {c' xb : Nat} {q : Option Addr} {d yb : Nat} {q' : Option Addr} {d' : Nat} (h : TS w W x y p c p' c' xb q d yb q' d') (hb : Below W.heap.size W W') : TS w W' x y p c p' c' xb q d yb q' d' :=
  ⟨h.ab.next (Nat.le_refl _) hb, h.x.next hb, h.y.next hb⟩
/-- a number is written into a row of one's own -/
theorem own_set {W : World} {base n g cap : Nat} {xs : List Value} (h : W.ownsRow base 3 1 (.slice (some ⟨g, 0, none⟩) n cap) n xs) (j : Nat) (hj : j < n) (u : Value) : (∃ u0, W.cell? ⟨g, j, none⟩ = some u0) ∧ W.frozen? ⟨g, j, none⟩ = false ∧ base ≤ g ∧ ∃ xs', (W.setCell ⟨g, j, none⟩ u).ownsRow base 3 1 (.slice (some ⟨g, 0, none⟩) n cap) n xs' := by
  rcases h.2 with ⟨h, _⟩ | ⟨g', cap', cur, e, h1, h2, h3, h4, h5, h6⟩
  · cases h
  · cases e
    refine ⟨⟨cur[j]'(by omega), by simp [World.cell?, h2]⟩, by simp [World.frozen?, h2], h1, _, ⟨?_, .inr ⟨g, cap, cur.setIfInBounds j u, rfl, h1, ?_, h3, h4, by simp [h5], rfl⟩⟩⟩
    · simp [List.length_take]; omega
    · simp [World.setCell, Array.getElem?_modify, h2]

theorem nod_64 {W : World} {B : Nat} {x y : V} (hn : Nod x y) : ∀ {p : Option Addr} {c : Nat}, SlV W B p c x.l → I64 x.n → I64 y.n := by
  induction hn with
  | me x => intro p c _ h; exact h
  | kid hz _ ih =>
    intro p c h _
    obtain ⟨i, hi, rfl⟩ := List.getElem_of_mem hz
    obtain ⟨b, o, q, d, _, _, _, _, _, h1, h2, h3⟩ := h.at3 i hi
    exact ih h1 h3
theorem ch_64 {W : World} {B : Nat} {v : Value} {x : V} {cs : List Int} (h : IsCh x cs) (hv : IsV W B v x) : ∀ k ∈ cs, I64 k := fun k hk => by
  obtain ⟨y, hy, _, _, rfl⟩ := (h.2 k).1 hk
  obtain ⟨⟨p, c, rfl, h1⟩, _, h3⟩ := hv
  exact nod_64 hy h1 h3

theorem len_sub {l : List Int} : ∀ {m : List Int}, Ris l → (∀ x ∈ l, x ∈ m) → l.length ≤ m.length := by
  induction l with
  | nil => intro m _ _; simp
  | cons a l ih =>
    intro m hr hs
    have hp := List.pairwise_cons.1 hr
    have ha := hs a (by simp)
    have := ih (m := m.erase a) hp.2 (fun x hx => (List.mem_erase_of_ne (by have := hp.1 x hx; omega)).2 (hs x (by simp [hx])))
    have h2 := List.length_erase_of_mem ha
    have h3 := List.length_pos_of_mem ha
    simp; omega
theorem nod_all : ∀ x : V, ∃ L : List V, L.length ≤ x.sz ∧ ∀ y, Nod x y → y ∈ L := by
  intro x
  induction x using V.ind with
  | h k n l ih =>
    have key : ∀ m : List V, (∀ z ∈ m, z ∈ l) → ∃ L : List V, L.length ≤ szs m ∧ ∀ z ∈ m, ∀ y, Nod z y → y ∈ L := by
      intro m
      induction m with
      | nil => intro _; exact ⟨[], by simp, by simp⟩
      | cons z m ihm =>
        intro hm
        obtain ⟨L, h1, h2⟩ := ihm (fun z hz => hm z (by simp [hz]))
        obtain ⟨L', h3, h4⟩ := ih z (hm z (by simp))
        refine ⟨L' ++ L, by simp [szs]; omega, fun t ht y hy => ?_⟩
        rcases List.mem_cons.1 ht with rfl | ht
        · exact List.mem_append.2 (.inl (h4 y hy))
        · exact List.mem_append.2 (.inr (h2 t ht y hy))
    obtain ⟨L, h1, h2⟩ := key l (fun _ h => h)
    refine ⟨V.mk k n l :: L, by rw [V.sz_eq]; simp [V.l]; omega, fun y hy => ?_⟩
    rcases nod_iff.1 hy with rfl | ⟨z, hz, h⟩
    · simp
    · exact List.mem_cons_of_mem _ (h2 z hz y h)
theorem ch_len {x : V} {cs : List Int} (h : IsCh x cs) : cs.length ≤ x.sz := by
  obtain ⟨L, h1, h2⟩ := nod_all x
  have := len_sub (m := L.map V.n) h.1 (fun n hn => by
    obtain ⟨y, hy, _, _, e⟩ := (h.2 n).1 hn
    exact List.mem_map.2 ⟨y, h2 y hy, e⟩)
  simp at this; omega

set_option maxRecDepth 100000 in
set_option maxHeartbeats 8000000 in
theorem tells_walk (w : World) (v : Value) (x : V) (hv : IsV w w.heap.size v x) (hlx : Lim x) (u : Value) (y : V) (hu : IsV w w.heap.size u y) (hly : Lim y) (m : Int) (hm : I64 m) :
    Calls Try.prog 3 #[v, u, .int .i64 m] w fun e w' => e = .returned (.bool true) ∧ Below w.heap.size w w' := by
  obtain ⟨⟨p, c, rfl, h1⟩, h2, h3⟩ := hv
  obtain ⟨⟨p', c', rfl, k1⟩, k2, k3⟩ := hu
  have HX : Bx (I64 x.k ∧ I64 x.n ∧ Lim x) := ⟨h2, h3, hlx⟩
  have HY : Bx (I64 y.k ∧ I64 y.n ∧ Lim y) := ⟨k2, k3, hly⟩
  have HM : Bx _ := ⟨hm⟩
  obtain ⟨W0, hW0⟩ : ∃ W0, (w.alloc (Obj.cells #[.int .i64 x.k, .int .i64 x.n, .slice p x.l.length c] 24)).alloc (Obj.cells #[.int .i64 y.k, .int .i64 y.n, .slice p' y.l.length c'] 24) = W0 := ⟨_, rfl⟩
  have HS0 : Bx (TwoB w W0 w.heap.size x y p c p' c') :=
    ⟨by rw [← hW0]; exact ⟨(Below.heap_alloc _ _ _ (by simp)).trans (World.alloc_heap_new _ _), alloc_at _ _ _, h1.lo (Lo.of (two_new _ _ _)), k1.lo (Lo.of (two_new _ _ _)), two_new _ _ _⟩⟩
  clear h1 h2 h3 k1 k2 k3 hlx hly hm
  have tok1 : True := trivial
  have tok2 : True := trivial
  have tok3 : True := trivial
  have tok4 : True := trivial
  have tok5 : True := trivial
  obtain ⟨j0, hj, jz0, jz1, jz2⟩ := info_parts infoI
  go_enter Try.func3, Try.ntmps3
  go_wp2_with (first | (go_at_call 8; refine (shown_any _).mono ?_; rintro e w1 ⟨rfl, hb1⟩; have HS1 : Bx (TwoB w w1 w.heap.size x y p c p' c') := ⟨HS0.out.next (Nat.le_refl _) hb1⟩; clear hb1; obtain ⟨a10, a11, a12, _, _, _, a1l⟩ := c3 HS1.out.a; obtain ⟨b10, b11, b12, _, _, _, b1l⟩ := c3 HS1.out.b) | (go_at_call 9; have _t := tok1; refine Calls.mono (great_any _ w.heap.size _ x ⟨⟨p, c, rfl, HS1.out.va⟩, HX.out.1, HX.out.2.1⟩ HS1.out.bel.size HX.out.2.2) ?_; rintro e w2 ⟨g1, rfl, hz1, hb2⟩; have HS2 : Bx (TwoB w w2 w.heap.size x y p c p' c') := ⟨HS1.out.next (Nat.le_refl _) hb2⟩; have HZ1 : Bx (g1 = false → x.sz ≤ 65536) := ⟨hz1⟩; clear hb2 tok1 hz1; clear a10 a11 a12 a1l b10 b11 b12 b1l; obtain ⟨a20, a21, a22, _, _, _, a2l⟩ := c3 HS2.out.a; obtain ⟨b20, b21, b22, _, _, _, b2l⟩ := c3 HS2.out.b; cases g1) | (go_at_call 9; have _t := tok2; refine Calls.mono (great_any _ w.heap.size _ y ⟨⟨p', c', rfl, HS2.out.vb⟩, HY.out.1, HY.out.2.1⟩ HS2.out.bel.size HY.out.2.2) ?_; rintro e w3 ⟨g2, rfl, hz2, hb3⟩; have HS3 : Bx (TwoB w w3 w.heap.size x y p c p' c') := ⟨HS2.out.next (Nat.le_refl _) hb3⟩; have HZ2 : Bx (g2 = false → y.sz ≤ 65536) := ⟨hz2⟩; clear hb3 tok2 hz2; clear a20 a21 a22 a2l b20 b21 b22 b2l; obtain ⟨a30, a31, a32, _, _, _, a3l⟩ := c3 HS3.out.a; obtain ⟨b30, b31, b32, _, _, _, b3l⟩ := c3 HS3.out.b; cases g2) | (go_at_call 10; have _t := tok3; refine Calls.mono (lown_any w3 w.heap.size _ x ⟨⟨p, c, rfl, HS3.out.va⟩, HX.out.1, HX.out.2.1⟩ HS3.out.bel.size (HZ1.out (by simp))) ?_; rintro e w4 ⟨q, d, rfl, hs4, hb4⟩; have HS4 : Bx (TwoB w (w4.alloc (Obj.cells #[.int .i64 x.k, .int .i64 x.n, .slice q x.l.length d] 24)) w.heap.size x y p c p' c' ∧ TX w (w4.alloc (Obj.cells #[.int .i64 x.k, .int .i64 x.n, .slice q x.l.length d] 24)) x w4.heap.size q d) := ⟨(HS3.out.next (Nat.le_refl _) hb4).next (Nat.le_refl _) (below1 _ _), TX.new HS3.out.bel.size hs4⟩; have HP4 : Bx (TwoB w w4 w.heap.size x y p c p' c') := ⟨HS3.out.next (Nat.le_refl _) hb4⟩; clear hs4 hb4 tok3; clear a30 a31 a32 a3l b30 b31 b32 b3l; obtain ⟨a40, a41, a42, _, _, _, a4l⟩ := c3 HP4.out.a; obtain ⟨b40, b41, b42, _, _, _, b4l⟩ := c3 HP4.out.b) | (go_at_call 10; have _t := tok4; refine Calls.mono (lown_any (w4.alloc (Obj.cells #[.int .i64 x.k, .int .i64 x.n, .slice q x.l.length d] 24)) w.heap.size _ y ⟨⟨p', c', rfl, HS4.out.1.vb⟩, HY.out.1, HY.out.2.1⟩ HS4.out.1.bel.size (HZ2.out (by simp))) ?_; rintro e w5 ⟨q', d', rfl, hs5, hb5⟩; have HS5 : Bx (TS w (w5.alloc (Obj.cells #[.int .i64 y.k, .int .i64 y.n, .slice q' y.l.length d'] 24)) x y p c p' c' w4.heap.size q d w5.heap.size q' d') := ⟨⟨(HS4.out.1.next (Nat.le_refl _) hb5).next (Nat.le_refl _) (below1 _ _), (HS4.out.2.next hb5).next (below1 _ _), TX.new HS4.out.1.bel.size hs5⟩⟩; clear hs5 hb5 tok4; clear a40 a41 a42 a4l b40 b41 b42 b4l))
  · obtain ⟨xb, hxb⟩ : ∃ xb, xb = w4.heap.size := ⟨_, rfl⟩
    obtain ⟨yb, hyb⟩ : ∃ yb, yb = w5.heap.size := ⟨_, rfl⟩
    rw [← hxb, ← hyb] at HS5
    rw [← hxb, ← hyb]
    have hx65 : Bx _ := ⟨HZ1.out (by simp)⟩
    have hy65 : Bx _ := ⟨HZ2.out (by simp)⟩
    clear hxb hyb HS4 HP4 HS3 HS2 HS1 HS0 HZ1 HZ2 hW0
    go_loopg [10] 2 (fun k iv wr => ∃ i : Nat, k = 2 - i ∧ i ≤ 2 ∧ iv = .int .i64 i ∧ Bx (TS w wr x y p c p' c' xb q d yb q' d'))
    case atStart => exact ⟨0, rfl, by omega, rfl, HS5⟩
    case round =>
      obtain ⟨i, hk, hi2, rfl, HS⟩ := hrel
      clear HS5
      obtain ⟨WA, rfl⟩ : ∃ WA, WA = wr := ⟨_, rfl⟩
      obtain ⟨x0, x1, x2, _, _, _, xl⟩ := c3 HS.out.x.a
      obtain ⟨a0, a1, a2, _, _, _, al⟩ := c3 HS.out.ab.a
      by_cases hlt : i < 2
      · go_wp2_with (first | (go_at_call 11; refine Calls.mono (Chans_any WA WA.heap.size _ x (HS.out.x.is hx65.out ⟨HX.out.1, HX.out.2.1⟩) (Nat.le_refl _) hx65.out) ?_; rintro e w6 ⟨cs, lv, rfl, hch, hown, hb6⟩; have HCH : Bx _ := ⟨hch⟩; have H64 : Bx _ := ⟨ch_64 hch (HS.out.x.is hx65.out ⟨HX.out.1, HX.out.2.1⟩)⟩; obtain ⟨lp, lc, rfl, hpt⟩ := pth_of hown (Nat.le_refl _) H64.out; have HPT : Bx _ := ⟨hpt⟩; have HO : Bx _ := ⟨hown⟩; have HB6 : Bx _ := ⟨hb6⟩; clear hch hown hpt hb6))
        · have HTN : Bx (∀ W, Below w6.heap.size w6 W → TS w W x y p c p' c' xb q d yb q' d') := ⟨fun W hb => (HS.out.next HB6.out).next hb⟩
          have H1 : Bx (∀ W, Below w6.heap.size w6 W → Calls Try.prog 12 #[(.agg #[.int .i64 x.k, .int .i64 x.n, .slice q x.l.length d])] W fun e w' => e = .returned (.bool (validB x)) ∧ Below W.heap.size W w') := ⟨fun W hb => Valid_any W W.heap.size _ x ((HTN.out W hb).x.is hx65.out ⟨HX.out.1, HX.out.2.1⟩) (Nat.le_refl _) hx65.out⟩
          have H2 : Bx (∀ W, Below w6.heap.size w6 W → Calls Try.prog 13 #[(.agg #[.int .i64 x.k, .int .i64 x.n, .slice p x.l.length c])] W fun e w' => e = .returned (.bool (validB x)) ∧ Below W.heap.size W w') := ⟨fun W hb => rvalid_any W w.heap.size _ x ⟨⟨p, c, rfl, (HTN.out W hb).ab.va⟩, HX.out.1, HX.out.2.1⟩ (HTN.out W hb).ab.bel.size⟩
          have H3 : Bx (∀ W, Below w6.heap.size w6 W → Calls Try.prog 14 #[(.agg #[.int .i64 x.k, .int .i64 x.n, .slice q x.l.length d]), .int .i64 m] W fun e w' => e = .returned (.int .i64 (sizeI x.sz m)) ∧ Below W.heap.size W w') := ⟨fun W hb => Size_any W W.heap.size _ x m ((HTN.out W hb).x.is hx65.out ⟨HX.out.1, HX.out.2.1⟩) (Nat.le_refl _) hx65.out HM.out⟩
          have H4 : Bx (∀ W, Below w6.heap.size w6 W → Calls Try.prog 15 #[(.agg #[.int .i64 x.k, .int .i64 x.n, .slice p x.l.length c]), .int .i64 m] W fun e w' => e = .returned (.int .i64 (sizeI x.sz m)) ∧ Below W.heap.size W w') := ⟨fun W hb => rsize_any W w.heap.size _ x m ⟨⟨p, c, rfl, (HTN.out W hb).ab.va⟩, HX.out.1, HX.out.2.1⟩ (HTN.out W hb).ab.bel.size hx65.out HM.out⟩
          have H5 : Bx (∀ W, Below w6.heap.size w6 W → Calls Try.prog 16 #[(.agg #[.int .i64 x.k, .int .i64 x.n, .slice q x.l.length d]), (.agg #[.int .i64 y.k, .int .i64 y.n, .slice q' y.l.length d'])] W fun e w' => e = .returned (.bool (eqB x y)) ∧ Below W.heap.size W w') := ⟨fun W hb => Same_any W W.heap.size _ _ x y ((HTN.out W hb).x.is hx65.out ⟨HX.out.1, HX.out.2.1⟩) ((HTN.out W hb).y.is hy65.out ⟨HY.out.1, HY.out.2.1⟩) (Nat.le_refl _) hx65.out⟩
          have H6 : Bx (∀ W, Below w6.heap.size w6 W → Calls Try.prog 17 #[(.agg #[.int .i64 x.k, .int .i64 x.n, .slice p x.l.length c]), (.agg #[.int .i64 y.k, .int .i64 y.n, .slice p' y.l.length c'])] W fun e w' => e = .returned (.bool (eqB x y)) ∧ Below W.heap.size W w') := ⟨fun W hb => rsame_any W w.heap.size _ _ x y ⟨⟨p, c, rfl, (HTN.out W hb).ab.va⟩, HX.out.1, HX.out.2.1⟩ ⟨⟨p', c', rfl, (HTN.out W hb).ab.vb⟩, HY.out.1, HY.out.2.1⟩ (HTN.out W hb).ab.bel.size⟩
          have H7 : Bx (∀ W, Below w6.heap.size w6 W → Calls Try.prog 16 #[(.agg #[.int .i64 x.k, .int .i64 x.n, .slice q x.l.length d]), (.agg #[.int .i64 x.k, .int .i64 x.n, .slice q x.l.length d])] W fun e w' => e = .returned (.bool true) ∧ Below W.heap.size W w') := ⟨fun W hb => (eqB_yes (rfl : x = x)) ▸ Same_any W W.heap.size _ _ x x ((HTN.out W hb).x.is hx65.out ⟨HX.out.1, HX.out.2.1⟩) ((HTN.out W hb).x.is hx65.out ⟨HX.out.1, HX.out.2.1⟩) (Nat.le_refl _) hx65.out⟩
          have H8 : Bx (∀ W, Below w6.heap.size w6 W → Calls Try.prog 19 #[(.agg #[.int .i64 x.k, .int .i64 x.n, .slice p x.l.length c])] W fun e w' => ∃ p2 c2, e = .returned (.slice p2 cs.length c2) ∧ Pth w' w'.heap.size p2 c2 cs ∧ Below W.heap.size W w') := ⟨fun W hb => Calls.mono (rchans_any W w.heap.size _ x ⟨⟨p, c, rfl, (HTN.out W hb).ab.va⟩, HX.out.1, HX.out.2.1⟩ (HTN.out W hb).ab.bel.size hx65.out) (fun e w' ⟨cs2, v2, h1, h2, h3, h4⟩ => by
            obtain rfl := HCH.out.one h2
            obtain ⟨p2, c2, rfl, h5⟩ := pth_of h3 (Nat.le_refl _) H64.out
            exact ⟨p2, c2, h1, h5, h4⟩)⟩
          have H9 : Bx (∀ W p2 c2, Below w6.heap.size w6 W → Pth W W.heap.size p2 c2 cs → Calls Try.prog 18 #[.slice lp cs.length lc, .slice p2 cs.length c2] W fun e w' => e = .returned (.bool true) ∧ Below W.heap.size W w') := ⟨fun W p2 c2 hb hp2 => numbers_yes W W.heap.size cs lp lc p2 c2 ((HPT.out.lo (Lo.of hb)).up hb.size) hp2⟩
          have HF : Bx (∀ w', Below w6.heap.size w6 w' → w'.cell? ⟨w.heap.size, 0, none⟩ = some (.int .i64 x.k) ∧ w'.cell? ⟨w.heap.size, 1, none⟩ = some (.int .i64 x.n) ∧ w'.cell? ⟨w.heap.size, 2, none⟩ = some (.slice p x.l.length c) ∧ w'.cell? ⟨w.heap.size + 1, 0, none⟩ = some (.int .i64 y.k) ∧ w'.cell? ⟨w.heap.size + 1, 1, none⟩ = some (.int .i64 y.n) ∧ w'.cell? ⟨w.heap.size + 1, 2, none⟩ = some (.slice p' y.l.length c') ∧ w'.cell? ⟨xb, 0, none⟩ = some (.int .i64 x.k) ∧ w'.cell? ⟨xb, 1, none⟩ = some (.int .i64 x.n) ∧ w'.cell? ⟨xb, 2, none⟩ = some (.slice q x.l.length d) ∧ w'.cell? ⟨yb, 0, none⟩ = some (.int .i64 y.k) ∧ w'.cell? ⟨yb, 1, none⟩ = some (.int .i64 y.n) ∧ w'.cell? ⟨yb, 2, none⟩ = some (.slice q' y.l.length d') ∧ Below w6.heap.size w6 w') := ⟨fun W hb => by
            have ht := HTN.out W hb
            obtain ⟨q0, q1, q2, _⟩ := c3 ht.ab.a
            obtain ⟨r0, r1, r2, _⟩ := c3 ht.ab.b
            obtain ⟨s0, s1, s2, _⟩ := c3 ht.x.a
            obtain ⟨t0, t1, t2, _⟩ := c3 ht.y.a
            exact ⟨q0, q1, q2, r0, r1, r2, s0, s1, s2, t0, t1, t2, hb⟩⟩
          have hbr : Below w6.heap.size w6 w6 := Below.refl _ _
          clear x0 x1 x2 xl a0 a1 a2 al
          go_region_held (fun w' => w'.cell? ⟨w.heap.size, 0, none⟩ = some (.int .i64 x.k) ∧ w'.cell? ⟨w.heap.size, 1, none⟩ = some (.int .i64 x.n) ∧ w'.cell? ⟨w.heap.size, 2, none⟩ = some (.slice p x.l.length c) ∧ w'.cell? ⟨w.heap.size + 1, 0, none⟩ = some (.int .i64 y.k) ∧ w'.cell? ⟨w.heap.size + 1, 1, none⟩ = some (.int .i64 y.n) ∧ w'.cell? ⟨w.heap.size + 1, 2, none⟩ = some (.slice p' y.l.length c') ∧ w'.cell? ⟨xb, 0, none⟩ = some (.int .i64 x.k) ∧ w'.cell? ⟨xb, 1, none⟩ = some (.int .i64 x.n) ∧ w'.cell? ⟨xb, 2, none⟩ = some (.slice q x.l.length d) ∧ w'.cell? ⟨yb, 0, none⟩ = some (.int .i64 y.k) ∧ w'.cell? ⟨yb, 1, none⟩ = some (.int .i64 y.n) ∧ w'.cell? ⟨yb, 2, none⟩ = some (.slice q' y.l.length d') ∧ Below w6.heap.size w6 w')
            (first | exact HF.out _ hz9 | exact HF.out _ hz8 | exact HF.out _ hz7 | exact HF.out _ hz6 | exact HF.out _ hz5 | exact HF.out _ hz4 | exact HF.out _ hz3 | exact HF.out _ hz2 | exact HF.out _ hz1 | exact HF.out _ hbr.drew)
            (first | (go_at_call 12; refine Calls.mono (H1.out _ hbr.drew) ?_; rintro e z1 ⟨rfl, hz1'⟩; have hz1 : Below w6.heap.size w6 z1 := (hbr.drew).trans (hz1'.mono (hbr.drew).size)) | (go_at_call 13; refine Calls.mono (H2.out _ hz1) ?_; rintro e z2 ⟨rfl, hz2'⟩; have hz2 : Below w6.heap.size w6 z2 := (hz1).trans (hz2'.mono (hz1).size)) | (go_at_call 14; refine Calls.mono (H3.out _ hz2) ?_; rintro e z3 ⟨rfl, hz3'⟩; have hz3 : Below w6.heap.size w6 z3 := (hz2).trans (hz3'.mono (hz2).size)) | (go_at_call 15; refine Calls.mono (H4.out _ hz3) ?_; rintro e z4 ⟨rfl, hz4'⟩; have hz4 : Below w6.heap.size w6 z4 := (hz3).trans (hz4'.mono (hz3).size)) | (go_at_call 16; have _t := tok5; refine Calls.mono (H5.out _ hz4) ?_; rintro e z5 ⟨rfl, hz5'⟩; have hz5 : Below w6.heap.size w6 z5 := (hz4).trans (hz5'.mono (hz4).size); clear tok5) | (go_at_call 17; refine Calls.mono (H6.out _ hz5) ?_; rintro e z6 ⟨rfl, hz6'⟩; have hz6 : Below w6.heap.size w6 z6 := (hz5).trans (hz6'.mono (hz5).size)) | (go_at_call 16; refine Calls.mono (H7.out _ hz6) ?_; rintro e z7 ⟨rfl, hz7'⟩; have hz7 : Below w6.heap.size w6 z7 := (hz6).trans (hz7'.mono (hz6).size)) | (go_at_call 19; refine Calls.mono (H8.out _ hz7) ?_; rintro e z8 ⟨p2, c2, rfl, hpt2, hz8'⟩; have HPT2 : Bx _ := ⟨hpt2⟩; have hz8 : Below w6.heap.size w6 z8 := hz7.trans (hz8'.mono hz7.size); clear hpt2) | (go_at_call 18; refine Calls.mono (H9.out _ _ _ hz8 HPT2.out) ?_; rintro e z9 ⟨rfl, hz9'⟩; have hz9 : Below w6.heap.size w6 z9 := hz8.trans (hz9'.mono hz8.size)))
          have HL0 : Bx (Below WA.heap.size WA z9 ∧ ∃ xs, z9.ownsRow WA.heap.size 3 1 (.slice lp cs.length lc) cs.length xs) := ⟨HB6.out.trans (hz9.mono HB6.out.size), _, own_new HO.out hz9⟩
          have hcl : cs.length ≤ 65536 := Nat.le_trans (ch_len HCH.out) hx65.out
          have hlcap := HPT.out.len
          have hlmax := HPT.out.max
          unfold maxLen at hlmax
          clear H1 H2 H3 H4 H5 H6 H7 H8 H9 HF HTN HPT HPT2 HO HB6
          clear hz1 hz2 hz3 hz4 hz5 hz6 hz7 hz8 hz9 hbr
          go_wp2
          go_loopg [12] cs.length (fun k jv wr => ∃ j : Nat, k = cs.length - j ∧ j ≤ cs.length ∧ jv = .int .i64 j ∧ Bx (Below WA.heap.size WA wr ∧ ∃ xs, wr.ownsRow WA.heap.size 3 1 (.slice lp cs.length lc) cs.length xs))
          case atStart => exact ⟨0, by simp, by omega, rfl, HL0⟩
          case round =>
            obtain ⟨j, hkj, hjl, rfl, HL⟩ := hrel
            clear HL0
            by_cases hjt : j < cs.length
            · obtain ⟨xs, ho⟩ := HL.out.2
              obtain ⟨g, rfl⟩ : ∃ g, lp = some ⟨g, 0, none⟩ := by
                rcases ho.2 with ⟨h, h0⟩ | ⟨g, cap, cur, e, _⟩
                · omega
                · cases e; exact ⟨g, rfl⟩
              obtain ⟨⟨u0, hu0⟩, hf0, hg0, xs', ho'⟩ := own_set ho j hjt (.int .i64 (-5))
              have HL' : Bx (Below WA.heap.size WA (wr.setCell ⟨g, j, none⟩ (.int .i64 (-5))) ∧ ∃ xs, (wr.setCell ⟨g, j, none⟩ (.int .i64 (-5))).ownsRow WA.heap.size 3 1 (.slice (some ⟨g, 0, none⟩) cs.length lc) cs.length xs) := ⟨HL.out.1.setCell (p := ⟨g, j, none⟩) hg0 _, xs', ho'⟩
              clear ho ho'
              go_wp2
              go_roundg (cs.length - (j + 1))
              case measure => omega
              case rel => exact ⟨j + 1, rfl, by omega, by simp, HL'⟩
            · obtain ⟨xs, ho⟩ := HL.out.2
              have HO2 : Bx _ := ⟨ho⟩
              clear ho
              go_wp2_with (first | (at_builtin; refine wpList_append_lies _ rfl (.tmp 78) (.tmp 79) 28 rfl WA.heap.size 3 j0 (.int .i64 0) 1 8 Try.underlying28 hj jz0 jz1 jz2 rfl (by decide) (.slice lp cs.length lc) cs.length xs rfl (own_new HO2.out (below1 _ _)) ⟨wr.heap.size, 0, none⟩ 2 2 [.int .i64 (-6), .int .i64 (-7)] rfl rfl (World.news_of_block (World.alloc_heap_new _ _)) (by simp [Value.oneCell']) (by decide) (by unfold maxLen; omega) (by omega) (by have := HL.out.1.size; simp; omega) (wr.heap.size + 1) (by simp) ?_; intro gg gcap w9 hown' hgrow hgi hgl'; have HT9 : Bx (TS w w9 x y p c p' c' xb q d yb q' d') := ⟨HS.out.next ((HL.out.1.alloc HL.out.1.size _).grown hgrow (by have := HL.out.1.size; simp; omega) (fun k e => own_base HO2.out k e))⟩))
              go_roundg (2 - (i + 1))
              case measure => omega
              case rel => exact ⟨i + 1, rfl, by omega, by simp, HT9⟩
      · have HC1 : Bx (Calls Try.prog 20 #[.agg #[.int .i64 x.k, .int .i64 x.n, .slice q x.l.length d], .agg #[.int .i64 x.k, .int .i64 x.n, .slice p x.l.length c]] WA fun e w' => e = .returned (.bool true) ∧ Below WA.heap.size WA w') := ⟨(eqB_yes (rfl : x = x)) ▸ same_any WA WA.heap.size _ _ x x (HS.out.x.is hx65.out ⟨HX.out.1, HX.out.2.1⟩) ⟨⟨p, c, rfl, SlV.up HS.out.ab.bel.size HS.out.ab.va⟩, HX.out.1, HX.out.2.1⟩ (Nat.le_refl _)⟩
        go_wp2_with (first | (go_at_call 20; refine Calls.mono HC1.out ?_; rintro e w7 ⟨rfl, hb7⟩; have HT7 : Bx _ := ⟨HS.out.next hb7⟩; clear hb7; clear x0 x1 x2 xl a0 a1 a2 al; obtain ⟨x0, x1, x2, _, _, _, xl⟩ := c3 HT7.out.x.a) | (go_at_call 21; refine Calls.mono (spare_any w7 _ _ x q d HT7.out.x.s (Nat.le_refl _) hx65.out) ?_; rintro e w8 ⟨rfl, hb8⟩; have HT8 : Bx _ := ⟨HT7.out.next hb8⟩; clear hb8))
        go_ret
        exact ⟨rfl, HT8.out.ab.bel⟩
  · go_ret
    exact ⟨rfl, HS3.out.bel⟩
  · go_ret
    exact ⟨rfl, HS2.out.bel⟩
end Go.Proofs.Ytdhgmeklphcbhaa
