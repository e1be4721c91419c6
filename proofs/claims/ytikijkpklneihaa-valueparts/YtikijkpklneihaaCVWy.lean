import Derived.Test.YtikijkpklneihaaCVPX
namespace Go.Proofs.Ytikijkpklneihaa
open Go.RowKit
set_option linter.unusedVariables false
set_option linter.unusedSimpArgs false

/-- boxes with values -/
def BXs (W : World) (L : List (Nat × V × Option Addr × Nat)) : Prop := ∀ t ∈ L, W.heap[t.1]? = some (.cells #[.int .i64 t.2.1.k, .int .i64 t.2.1.n, .slice t.2.2.1 t.2.1.l.length t.2.2.2] 24 (0, 0))
theorem BXs.next {W W' : World} {L : List (Nat × V × Option Addr × Nat)} (h : BXs W L) (hb : Below W.heap.size W W') : BXs W' L := fun t ht => (hb.block _ (heap_lt (h t ht))).trans (h t ht)
theorem BXs.add {W W' : World} {L : List (Nat × V × Option Addr × Nat)} {z : V} {q : Option Addr} {d : Nat} (h : BXs W L) (hb : Below W.heap.size W W') : BXs (W'.alloc (.cells #[.int .i64 z.k, .int .i64 z.n, .slice q z.l.length d] 24)) (L ++ [(W'.heap.size, z, q, d)]) := fun t ht => by
  rcases List.mem_append.1 ht with ht | ht
  · exact (h.next (hb.trans ((below1 _ _).mono hb.size))) t ht
  · simp only [List.mem_singleton] at ht
    subst ht
    exact World.alloc_heap_new _ _
/-- a path with a mark behind it -/
theorem way_app (W : World) (B : Nat) (pp : Option Addr) (pc : Nat) (ks : List Int) (hp : Pth W B pp pc ks) (hB : B ≤ W.heap.size) (hl : ks.length ≤ 17592186044000) : ∃ v1 W1 g cap W2, (∀ ty, (Builtin.append_ #[25, 25] ty #[.slice (some ⟨W.heap.size, 0, none⟩) 0 0, .slice pp ks.length pc]).run Try.prog (W.alloc (.cells #[] 3)) = .ok v1 W1) ∧ (∀ ty, (Builtin.append_ #[25, 25] ty #[v1, .slice (some ⟨W1.heap.size, 0, none⟩) 1 1]).run Try.prog (W1.alloc (.cells #[.int .i64 (-77)] 3)) = .ok (.slice (some ⟨g, 0, none⟩) (ks.length + 1) cap) W2) ∧ Below W.heap.size W W2 ∧ Pth W2 W2.heap.size (some ⟨g, 0, none⟩) cap ks ∧ W2.cell? ⟨g, ks.length, none⟩ = some (.int .i64 (-77)) ∧ ks.length + 1 ≤ cap ∧ g < W2.heap.size ∧ W.heap.size ≤ g := by
  obtain ⟨i0, hi, hz0, hz1, hz2⟩ := info_parts infoI
  have hb := below1 W (.cells #[] 3)
  have ho : (W.alloc (.cells #[] 3)).ownsRow W.heap.size 3 1 (.slice (some ⟨W.heap.size, 0, none⟩) 0 0) 0 [] := ⟨rfl, .inr ⟨W.heap.size, 0, #[], rfl, Nat.le_refl _, World.alloc_heap_new _ _, Nat.le_refl _, by simp [maxLen], rfl, rfl⟩⟩
  have hp1 := hp.lo (Lo.of (hb.mono hB))
  obtain ⟨v1, W1, r1, o1, g1⟩ := appL Try.underlying25 hi hz0 hz1 hz2 rfl (by decide) (W.alloc (.cells #[] 3)) W.heap.size _ 0 [] ho pp ks.length pc (ks.map (Value.int .i64 ·)) (by simp) (fun h0 => by
    obtain ⟨b, o, e, _, _⟩ := hp1.at_ 0 h0
    refine ⟨_, e, fun j z hj => ?_⟩
    obtain ⟨hjl, rfl⟩ := List.getElem?_eq_some_iff.1 hj
    simp only [List.length_map] at hjl
    obtain ⟨b', o', e', _, h2, _⟩ := hp1.at_ j hjl
    rw [e] at e'
    simp only [Option.some.injEq, Addr.mk.injEq, and_true] at e'
    obtain ⟨rfl, rfl⟩ := e'
    rw [show (⟨b, o, none⟩ : Addr).add j = ⟨b, o + j, none⟩ by unfold Addr.add; split <;> simp_all, h2]
    simp) (by simp [Value.oneCell']) (by unfold maxLen; omega) (by omega) hb.size
  rw [List.nil_append, Nat.zero_add] at o1
  have hb1 : Below W.heap.size W W1 := hb.grown g1 hb.size fun b hb' => own_base ho b hb'
  obtain ⟨g, cap, W2, r2, o2, g2, hc, _⟩ := app1 Try.underlying25 hi hz0 hz1 hz2 rfl (by decide) W1 W.heap.size v1 ks.length _ o1 #[.int .i64 (-77)] rfl (by simp [Value.oneCell']) (by unfold maxLen; omega) (by omega) hb1.size
  have hb2 : Below W.heap.size W W2 := hb1.grown g2 hb1.size fun b hb' => own_base o1 b hb'
  have hgl : g < W2.heap.size := (owns_block o2 rfl).2
  have hcm : cap ≤ maxLen := by
    rcases o2.2 with ⟨e, _⟩ | ⟨g', cap', cur, e, _, _, _, h4, _⟩
    · cases e
    · simp only [Value.slice.injEq] at e
      obtain ⟨_, _, rfl⟩ := e
      exact h4
  have hcell : ∀ j z, (ks.map (Value.int .i64 ·) ++ [Value.int .i64 (-77)])[j]? = some z → W2.cell? ⟨g, j, none⟩ = some z := fun j z hj => by
    have hjl := (List.getElem?_eq_some_iff.1 hj).1
    simp at hjl
    rw [o2.cellAt j (by omega)]
    exact hj
  refine ⟨v1, W1, g, cap, W2, r1, r2, hb2, ⟨by omega, hcm, fun i hi' => ⟨g, 0, rfl, hgl, ?_, ?_⟩⟩, hcell _ _ (by simp), hc, hgl, (owns_block o2 rfl).1⟩
  · rw [Nat.zero_add]
    refine hcell _ _ ?_
    rw [List.getElem?_append_left (by simpa using hi')]
    simp [hi']
  · obtain ⟨_, _, _, _, _, h⟩ := hp.at_ i hi'
    exact h
/-! ### what is so from a world on -/
def boxO (z : V) (q : Option Addr) (d : Nat) : Obj := .cells #[.int .i64 z.k, .int .i64 z.n, .slice q z.l.length d] 24 (0, 0)
theorem own_on {w5 : World} {s : Nat} {z : V} {q : Option Addr} {d : Nat} (h : SpV w5 s w5.heap.size z q d) : ∀ Y, Below (w5.alloc (boxO z q d)).heap.size (w5.alloc (boxO z q d)) Y → Y.heap[w5.heap.size]? = some (boxO z q d) ∧ SpV Y s w5.heap.size z q d ∧ w5.heap.size < Y.heap.size := fun Y hY => by
  have hs := hY.size
  rw [World.size_alloc] at hs
  have hb : Below w5.heap.size w5 Y := (below1 _ _).trans (hY.mono (below1 w5 _).size)
  exact ⟨(hY.block _ (by simp)).trans (World.alloc_heap_new _ _), SpV.mid ⟨fun b o _ h2 => hb.cell (p := ⟨b, o, none⟩) h2⟩ _ h, by omega⟩
theorem prv_on {w5 : World} {s : Nat} {z : V} {q : Option Addr} {d : Nat} (h : Prv w5 s w5.heap.size 0 z q d) (h1 : I64 z.k ∧ I64 z.n) (hs : s ≤ w5.heap.size) : ∀ Y, Below (w5.alloc (boxO z q d)).heap.size (w5.alloc (boxO z q d)) Y → Y.heap[w5.heap.size]? = some (boxO z q d) ∧ Prv Y s w5.heap.size 0 z q d ∧ w5.heap.size < Y.heap.size ∧ (I64 z.k ∧ I64 z.n) ∧ s ≤ w5.heap.size := fun Y hY => by
  have hs' := hY.size
  rw [World.size_alloc] at hs'
  have hb : Below w5.heap.size w5 Y := (below1 _ _).trans (hY.mono (below1 w5 _).size)
  exact ⟨(hY.block _ (by simp)).trans (World.alloc_heap_new _ _), h.keep fun b _ _ h3 => hb.block b h3, by omega, h1, hs⟩
theorem isv_on {w5 : World} {z : V} {q : Option Addr} {d : Nat} (h : IsV w5 w5.heap.size (agV z.k z.n q z.l.length d) z) : ∀ Y, Below (w5.alloc (boxO z q d)).heap.size (w5.alloc (boxO z q d)) Y → Y.heap[w5.heap.size]? = some (boxO z q d) ∧ IsV Y Y.heap.size (agV z.k z.n q z.l.length d) z ∧ w5.heap.size < Y.heap.size := fun Y hY => by
  have hs := hY.size
  rw [World.size_alloc] at hs
  have hb : Below w5.heap.size w5 Y := (below1 _ _).trans (hY.mono (below1 w5 _).size)
  exact ⟨(hY.block _ (by simp)).trans (World.alloc_heap_new _ _), (h.lo (Lo.of hb)).up hb.size, by omega⟩
theorem bel_step {w5 W : World} {o : Obj} (h : Below W.heap.size W w5) : Below W.heap.size W (w5.alloc o) := h.trans ((below1 _ _).mono h.size)
theorem bel_to {W W' Y : World} (h : Below W.heap.size W W') (g : Below W'.heap.size W' Y) : Below W.heap.size W Y := h.trans (g.mono h.size)
/-! ### .. behind the book's growth -/
theorem FZ.low {w0 W : World} {S S' h : Nat} (f : FZ w0 S h W) (hs : S' ≤ S) : FZ w0 S' h W := ⟨f.os, f.tape, f.output, Nat.le_trans hs f.size, fun b h1 h2 => f.blk b (by omega) h2⟩
theorem FZ.box {w0 W : World} {S h b : Nat} {o : Obj} (f : FZ w0 S h W) (hb : w0.heap[b]? = some o) (hs : b < S) (hn : b ≠ h) : W.heap[b]? = some o := (f.blk b hs hn).trans hb
theorem FZ.spv {w0 W : World} {S h s t : Nat} {z : V} {q : Option Addr} {d : Nat} (f : FZ w0 S h W) (hv : SpV w0 s t z q d) (ht : t ≤ S) (hh : h < s) : SpV W s t z q d := SpV.mid (Mid.blocks fun b h1 h2 => f.blk b (by omega) (by omega)) _ hv
theorem FZ.below {w w0 W : World} {S h : Nat} (f : FZ w0 S h W) (hb : Below w.heap.size w w0) (h1 : w.heap.size ≤ S) (h2 : w.heap.size ≤ h) : Below w.heap.size w W := ⟨f.os.trans hb.os, f.tape.trans hb.tape, f.output.trans hb.output, Nat.le_trans h1 f.size, fun b h => (f.blk b (by omega) (by omega)).trans (hb.block b h)⟩
/-- what the end looks at -/
structure PX (w : World) (x y : V) (p : Option Addr) (c : Nat) (p' : Option Addr) (c' : Nat) (xb yb : Nat) (xq : Option Addr) (xd : Nat) (yq : Option Addr) (yd : Nat) (sx tx sy ty : Nat) (pp : Option Addr) (pc g gc : Nat) (ks : List Int) (Y : World) : Prop where
  a : Y.heap[w.heap.size]? = some (boxO x p c)
  b : Y.heap[w.heap.size + 1]? = some (boxO y p' c')
  xa : Y.heap[xb]? = some (boxO x xq xd)
  ya : Y.heap[yb]? = some (boxO y yq yd)
  va : SlV Y w.heap.size p c x.l
  vb : SlV Y w.heap.size p' c' y.l
  xs : SpV Y sx tx x xq xd
  ys : SpV Y sy ty y yq yd
  txl : tx < Y.heap.size
  tyl : ty < Y.heap.size
  wp : w.heap.size ≤ Y.heap.size
  path : Pth Y w.heap.size pp pc ks
  inn : Pth Y Y.heap.size (some ⟨g, 0, none⟩) gc ks
  mrk : Y.cell? ⟨g, ks.length, none⟩ = some (.int .i64 (-77))
theorem FZ.px {w w0 W : World} {S h : Nat} {x y : V} {p : Option Addr} {c : Nat} {p' : Option Addr} {c' xb yb : Nat} {xq : Option Addr} {xd : Nat} {yq : Option Addr} {yd sx tx sy ty : Nat} {pp : Option Addr} {pc g gc : Nat} {ks : List Int} (f : FZ w0 S h W) (hP : PX w x y p c p' c' xb yb xq xd yq yd sx tx sy ty pp pc g gc ks w0) (n1 : w.heap.size + 1 < h) (n2 : h < sx) (n3 : tx ≤ xb) (n4 : h < xb) (n5 : xb < S) (n6 : h < sy) (n7 : ty ≤ yb) (n8 : h < yb) (n9 : yb < S) (n10 : h < g) (n11 : g < S) : PX w x y p c p' c' xb yb xq xd yq yd sx tx sy ty pp pc g gc ks W := by
  have hl : Lo w.heap.size w0 W := Lo.blocks fun b hb => f.blk b (by omega) (by omega)
  have hs := f.size
  have hg : ∀ o, W.cell? ⟨g, o, none⟩ = w0.cell? ⟨g, o, none⟩ := fun o => World.cell?_of_block (a := ⟨g, o, none⟩) (f.blk g n11 (by omega))
  exact ⟨f.box hP.a (by omega) (by omega), f.box hP.b (by omega) (by omega), f.box hP.xa n5 (by omega), f.box hP.ya n9 (by omega), hP.va.lo hl, hP.vb.lo hl, f.spv hP.xs (by omega) n2, f.spv hP.ys (by omega) n6, by omega, by omega, by omega, hP.path.lo hl, ⟨hP.inn.len, hP.inn.max, fun i hi => by
    obtain ⟨b, o, e, _, h2, h3⟩ := hP.inn.at_ i hi
    simp only [Option.some.injEq, Addr.mk.injEq, and_true] at e
    obtain ⟨rfl, rfl⟩ := e
    exact ⟨g, 0, rfl, by omega, by rw [hg]; exact h2, h3⟩⟩, by rw [hg]; exact hP.mrk⟩
section
variable {w Y : World} {x y : V} {p : Option Addr} {c : Nat} {p' : Option Addr} {c' xb yb : Nat} {xq : Option Addr} {xd : Nat} {yq : Option Addr} {yd sx tx sy ty : Nat} {pp : Option Addr} {pc g gc : Nat} {ks : List Int}
theorem PX.ox (h : PX w x y p c p' c' xb yb xq xd yq yd sx tx sy ty pp pc g gc ks Y) (hs : x.sz ≤ 65536) (hk : I64 x.k) (hn : I64 x.n) : IsV Y Y.heap.size (agV x.k x.n xq x.l.length xd) x := ⟨⟨xq, xd, rfl, (SpV.sl _ h.xs (by omega)).up (Nat.le_of_lt h.txl)⟩, hk, hn⟩
theorem PX.oy (h : PX w x y p c p' c' xb yb xq xd yq yd sx tx sy ty pp pc g gc ks Y) (hs : y.sz ≤ 65536) (hk : I64 y.k) (hn : I64 y.n) : IsV Y Y.heap.size (agV y.k y.n yq y.l.length yd) y := ⟨⟨yq, yd, rfl, (SpV.sl _ h.ys (by omega)).up (Nat.le_of_lt h.tyl)⟩, hk, hn⟩
theorem PX.vx (h : PX w x y p c p' c' xb yb xq xd yq yd sx tx sy ty pp pc g gc ks Y) (hk : I64 x.k) (hn : I64 x.n) : IsV Y Y.heap.size (agV x.k x.n p x.l.length c) x := ⟨⟨p, c, rfl, h.va.up h.wp⟩, hk, hn⟩
theorem PX.vy (h : PX w x y p c p' c' xb yb xq xd yq yd sx tx sy ty pp pc g gc ks Y) (hk : I64 y.k) (hn : I64 y.n) : IsV Y Y.heap.size (agV y.k y.n p' y.l.length c') y := ⟨⟨p', c', rfl, h.vb.up h.wp⟩, hk, hn⟩
end
theorem no_int {W : World} {b : Nat} (h : W.heap[b]? = some (.cells #[.slice none 0 0, .slice none 0 0] 30 (0, 0))) : ∀ o k, W.cell? ⟨b, o, none⟩ ≠ some (.int .i64 k) := fun o k e => by
  simp only [World.cell?, h] at e
  rcases o with _ | _ | o <;> simp at e
end Go.Proofs.Ytikijkpklneihaa
