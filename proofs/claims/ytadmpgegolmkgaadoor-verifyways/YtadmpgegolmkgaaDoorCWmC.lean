import Derived.Test.YtadmpgegolmkgaaDoorCYG
namespace Go.Proofs.YtadmpgegolmkgaaDoor
open Go.RowKit Go.MapKept Go.ChangeMaps Go.WideShapes
set_option linter.unusedVariables false
set_option linter.unusedSimpArgs false

theorem FoJ.cell {w0 w : World} {wb : Nat} {g : WG} {pg : CPg} {ca : Option Addr} {cc sl : Nat} {R : Nat × Int × Wst} {f : Nat} {s : Wst} (h : FoJ w0 w wb g pg ca cc sl R f s) : w.cell? ⟨wb, 6, none⟩ = some (.slice (some ⟨g.db, 0, none⟩) g.L g.dc) ∧ wb < w.heap.size := by
  obtain ⟨mb, gb, hw, _⟩ := h.mem
  exact ⟨hw.cells.2.2.2.2.2.2.1, hw.lt.1⟩
/-- the next one that is due, and what look does there -/
theorem FoJ.take {w0 w : World} {wb : Nat} {g : WG} {pg : CPg} {ca : Option Addr} {cc sl pr : Nat} {R : Nat × Int × Wst} {f : Nat} {s : Wst} (h : FoJ w0 w wb g pg ca cc sl R f s) (hV : VW w0) (hp : PgOk pg sl pr) (hc : Row (InAt w0 w0.heap.size) w0.heap.size 4 ca cc pg.code) (hng : pg.code.length ≤ g.n) (htop : szW g.n (g.L - 1) = 1) (hL0 : 0 < g.L) {i : Nat} (hi : leastD pg.code.length s.D = some i) :
    Calls Tryd.prog 43 #[.slice (some ⟨g.db, 0, none⟩) g.L g.dc] w fun e w' => e = .returned (.tuple #[.int .i64 (i : Int), .bool true]) ∧ Bx (Calls Tryd.prog 44 #[.pointer (some ⟨wb, 0, none⟩), .int .i64 (i : Int)] w' fun e w'' => e = .returned (.int .i64 (lookP pg.code.length pg.res (lvS sl) i (inA pg.code i) (kA s.K i) ⟨s.P, s.K, del i s.D⟩).1) ∧ Bx (Below w0.heap.size w0 w'' ∧ ∃ mb gb, WkM w'' wb (g.at_ mb) (pgA pg ca cc) (lvS sl) gb (lookP pg.code.length pg.res (lvS sl) i (inA pg.code i) (kA s.K i) ⟨s.P, s.K, del i s.D⟩).2.P (lookP pg.code.length pg.res (lvS sl) i (inA pg.code i) (kA s.K i) ⟨s.P, s.K, del i s.D⟩).2.K (lookP pg.code.length pg.res (lvS sl) i (inA pg.code i) (kA s.K i) ⟨s.P, s.K, del i s.D⟩).2.D ∧ WkH w0.heap.size wb (g.at_ mb) gb)) := by
  obtain ⟨hin, hlb⟩ := least_some hi
  obtain ⟨mb, gb, hw, hH⟩ := h.mem
  have hVw : VW w := hV.below h.bel
  refine (take_some w hVw g.db g.dc g.eb g.L g.n s.D hw.du (fun j hj => Nat.lt_of_lt_of_le (h.kv.dn j hj).1 hng) ⟨i, hlb.1⟩ htop hL0).mono ?_
  rintro e w' ⟨j, hj, hjn, rfl, hb⟩
  obtain rfl := least_one hj hlb
  obtain ⟨hdu, hx⟩ := hb.out
  refine ⟨rfl, ⟨?_⟩⟩
  obtain ⟨n1, n2, n3, n4⟩ := hw.ne
  obtain ⟨l1, l2, l3, l4, l5, l6⟩ := hw.lt
  obtain ⟨gc, ss⟩ := hw.se
  have hw' : WkM w' wb (g.at_ mb) (pgA pg ca cc) (lvS sl) gb s.P s.K (del j s.D) := ⟨⟨gc, ss.fx hx (fun ⟨l, hl, e⟩ => (n4 l hl).1 e.symm) (fun ⟨l, hl, e⟩ => (n4 l hl).2.1 e.symm) (fun ⟨l, hl, e⟩ => (n4 l hl).2.2.1 e.symm)⟩, (hx.block _ l4 fun ⟨l, hl, e⟩ => (n4 l hl).2.2.2 e.symm).trans hw.kn, hw.kl, hdu, hw.nd⟩
  have hs0 := h.bel.size
  have hbw : Below w0.heap.size w0 w' := h.bel.trans (hx.bel hs0 fun k hk ⟨l, hl, e⟩ => by
    have := hH k (.inr (.inr ⟨l, hl, e⟩))
    omega)
  have hkl : pg.code.length ≤ s.K.length := h.kv.kn
  have hkA : s.K[j]? = some (kA s.K j) := by
    unfold kA
    rw [List.getElem?_eq_getElem (by omega)]
    rfl
  have hxi : pg.code[j]? = some (inA pg.code j) := by
    unfold inA
    rw [List.getElem?_eq_getElem hin]
    rfl
  obtain ⟨hk1, hk2, hk3⟩ := hp.ins j _ hxi
  have hnz := (h.kv.dn j hlb.1).2
  have hab := h.kv.ab j hin
  have hful := h.ful
  have hp2 : (kA s.K j).1 ≤ 2147483648 := by omega
  have hE : LkE w' wb (g.at_ mb) (pgA pg ca cc) (lvS sl) gb s.P s.K (del j s.D) w0.heap.size pg.code ca cc j (inA pg.code j) (kA s.K j) pg.res := ⟨hw', rfl, rfl, hc.mono fun b o x hb he => he.below hbw (Nat.le_refl _) hb, hH, hbw.size, by have := hp.n1; omega, hxi, hkA, by omega, by omega, hV.below hbw, hk2, hk3⟩
  have hlv : lvS sl < 60 := by
    have := lvS_le (many := sl) (by have := hp.sl1; omega)
    omega
  have hlen := h.len
  have hf1 : 0 < f := by have := h.me; omega
  have hm := Nat.le_mul_of_pos_right (lvS sl) hf1
  refine (look_any hE hlv (by omega) hk1 (by have := hp.sl1; have := hp.es; omega) hng (h.kv.vs j hin hnz) (by omega)).mono ?_
  rintro e w'' ⟨rfl, hb2⟩
  obtain ⟨hbel, gb', hw2, hH2⟩ := hb2.out.hi hH hbw.size
  exact ⟨rfl, ⟨hbw.trans hbel, mb, gb', hw2, hH2⟩⟩
theorem FoJ.none {w0 w : World} {wb : Nat} {g : WG} {pg : CPg} {ca : Option Addr} {cc sl : Nat} {R : Nat × Int × Wst} {f : Nat} {s : Wst} (h : FoJ w0 w wb g pg ca cc sl R f s) (htop : szW g.n (g.L - 1) = 1) (hL0 : 0 < g.L) (hi : leastD pg.code.length s.D = none) :
    Calls Tryd.prog 43 #[.slice (some ⟨g.db, 0, none⟩) g.L g.dc] w fun e w' => e = .returned (.tuple #[.int .i64 0, .bool false]) ∧ w = w' := by
  obtain ⟨mb, gb, hw, hH⟩ := h.mem
  exact take_none w g.db g.dc g.eb g.L g.n s.D hw.du (h.done hi).2 htop hL0
/-- where nothing is due any more the walker may be used again -/
theorem FoJ.ready {w0 w : World} {wb : Nat} {g : WG} {pg : CPg} {ca : Option Addr} {cc sl : Nat} {R : Nat × Int × Wst} {f : Nat} {s : Wst} (h : FoJ w0 w wb g pg ca cc sl R f s) (hdb : w0.heap.size ≤ g.db) (hi : leastD pg.code.length s.D = .none) : WkR w w0.heap.size wb g (pgA pg ca cc) s.K := by
  obtain ⟨mb, gb, hw, hH⟩ := h.mem
  obtain ⟨gc, ss⟩ := hw.se
  have hd : s.D = fun _ => false := funext (h.done hi).2
  have hdu := hw.du
  rw [hd] at hdu
  exact ⟨hH _ (.inl (.inl rfl)), hH _ (.inr (.inl rfl)), hdb, fun l hl => hH _ (.inr (.inr ⟨l, hl, rfl⟩)), hw.kn, hw.kl, hdu, ⟨hw.nd.1, hw.nd.2.1⟩, .inr ⟨mb, lvS sl, gb, gc, s.P, ss, hH _ (.inl (.inr (.inl rfl))), hH _ (.inl (.inr (.inr rfl))), hw.nd.2.2.1, hw.nd.2.2.2⟩⟩
/-- the copy of the prog that follow was handed -/
abbrev pgC (pg : CPg) (ca : Option Addr) (cc : Nat) : Array Value := #[.int .i64 pg.params, .int .i64 pg.slots, .int .i64 pg.caps, .bool pg.res, .slice ca pg.code.length cc]
theorem WkM.other {w : World} {wb : Nat} {g : WG} {A : WA} {L gb : Nat} {P : Prs} {K : List Wy} {D : Nat → Bool} (h : WkM w wb g A L gb P K D) {k : Nat} {cs : Array Value} {fl : Nat × Nat} (hk : w.heap[k]? = some (.cells cs 40 fl)) : ¬ wOwn wb g gb k := by
  obtain ⟨gc, ss⟩ := h.se
  have hw := ss.wk
  unfold wkA at hw
  obtain ⟨c, f, hgg⟩ := owns_kind ss.row gb rfl
  rintro ((q | q | q) | q | ⟨l, hl, q⟩)
  · exact cells_ne hk hw (by decide) q
  · exact cells_ne hk hgg (by decide) q
  · exact cells_map hk ss.mp.obj q
  · exact cells_ne hk h.kn (by decide) q
  · exact cells_ne hk (h.du.wrd l hl) (by decide) q
structure FoL (w0 w : World) (wb : Nat) (g : WG) (pg : CPg) (ca : Option Addr) (cc sl pb : Nat) (P : Prs) (K : List Wy) (D : Nat → Bool) : Prop where
  bel : Below w0.heap.size w0 w
  mem : ∃ mb gb, WkM w wb (g.at_ mb) (pgA pg ca cc) (lvS sl) gb P K D ∧ WkH w0.heap.size wb (g.at_ mb) gb
  ph : w.heap[pb]? = some (.cells (pgC pg ca cc) 40 (0, 0))
theorem FoL.below {w0 w w' : World} {wb : Nat} {g : WG} {pg : CPg} {ca : Option Addr} {cc sl pb : Nat} {P : Prs} {K : List Wy} {D : Nat → Bool} (h : FoL w0 w wb g pg ca cc sl pb P K D) (hb : Below w.heap.size w w') : FoL w0 w' wb g pg ca cc sl pb P K D := by
  obtain ⟨mb, gb, hw, hH⟩ := h.mem
  exact ⟨h.bel.trans (hb.mono h.bel.size), ⟨mb, gb, hw.below hb, hH⟩, (hb.block _ (heap_lt h.ph)).trans h.ph⟩
theorem FoL.drewN {w0 w : World} {wb : Nat} {g : WG} {pg : CPg} {ca : Option Addr} {cc sl pb : Nat} {P : Prs} {K : List Wy} {D : Nat → Bool} (h : FoL w0 w wb g pg ca cc sl pb P K D) (k : Nat) : FoL w0 (w.drewN k) wb g pg ca cc sl pb P K D := h.below (below_drewN (Below.refl _ w) k)
theorem FoL.cells {w0 w : World} {wb : Nat} {g : WG} {pg : CPg} {ca : Option Addr} {cc sl pb : Nat} {P : Prs} {K : List Wy} {D : Nat → Bool} (h : FoL w0 w wb g pg ca cc sl pb P K D) : w.cell? ⟨pb, 0, none⟩ = some (.int .i64 pg.params) ∧ w.cell? ⟨pb, 1, none⟩ = some (.int .i64 pg.slots) ∧ w.cell? ⟨pb, 4, none⟩ = some (.slice ca pg.code.length cc) ∧ w.cell? ⟨wb, 5, none⟩ = some (.slice (some ⟨g.kb, 0, none⟩) g.n g.n) ∧ wb < w.heap.size := by
  obtain ⟨mb, gb, hw, hH⟩ := h.mem
  exact ⟨cell_blk h.ph rfl, cell_blk h.ph rfl, cell_blk h.ph rfl, hw.cells.2.2.2.2.2.1, hw.lt.1⟩
theorem FoL.post {w0 w w' : World} {wb : Nat} {g : WG} {pg : CPg} {ca : Option Addr} {cc sl pb mb gb : Nat} {P P' : Prs} {K K' : List Wy} {D D' : Nat → Bool} (h : FoL w0 w wb g pg ca cc sl pb P K D) (hw : WkM w wb (g.at_ mb) (pgA pg ca cc) (lvS sl) gb P K D) (hH : WkH w0.heap.size wb (g.at_ mb) gb) (hq : WkPost w wb (g.at_ mb) (pgA pg ca cc) (lvS sl) gb P' K' D' w') : FoL w0 w' wb g pg ca cc sl pb P' K' D' := by
  have hph := hq.own h.ph (hw.other h.ph)
  obtain ⟨hb, gb', hw', hH'⟩ := hq.hi hH h.bel.size
  exact ⟨h.bel.trans hb, ⟨mb, gb', hw', hH'⟩, hph⟩
theorem FoL.clear {w0 w : World} {wb : Nat} {g : WG} {pg : CPg} {ca : Option Addr} {cc sl pb : Nat} {P : Prs} {K : List Wy} {D : Nat → Bool} (h : FoL w0 w wb g pg ca cc sl pb P K D) (h0 : 0 < pg.code.length) (hng : pg.code.length ≤ g.n) : ∃ W, (∀ ty, (Builtin.clear_ #[67] ty #[.slice (some ⟨g.kb, 0, none⟩) pg.code.length g.n]).run Tryd.prog w = .ok (.tuple #[]) W) ∧ FoL w0 W wb g pg ca cc sl pb P (clearK pg.code.length K) D := by
  obtain ⟨mb, gb, hw, hH⟩ := h.mem
  have hkl := hw.kl
  obtain ⟨W, r, hk, x⟩ := clear_wys w g.kb pg.code.length g.n K h0 (by rw [hkl]; exact hng) hw.kn
  obtain ⟨n1, n2, n3, n4⟩ := hw.ne
  obtain ⟨gc, ss⟩ := hw.se
  have hw' : WkM W wb (g.at_ mb) (pgA pg ca cc) (lvS sl) gb P (clearK pg.code.length K) D := ⟨⟨gc, ss.fx x (fun e => n1 e.symm) (fun e => n2 e.symm) (fun e => n3 e.symm)⟩, hk, by
    unfold clearK
    rw [List.length_append, List.length_replicate, List.length_drop, hkl]
    show pg.code.length + (g.n - pg.code.length) = g.n
    omega, hw.du.fx x hw.nd.2.1 fun l hl => (n4 l hl).2.2.2, hw.nd⟩
  have hno := hw.other h.ph
  exact ⟨W, r, h.bel.trans (x.bel h.bel.size fun k hk e => by have := hH k (.inr (.inl e)); omega), ⟨mb, gb, hw', hH⟩, (x.block _ (heap_lt h.ph) fun e => hno (.inr (.inl e))).trans h.ph⟩
theorem FoL.first {w0 w : World} {wb : Nat} {g : WG} {pg : CPg} {ca : Option Addr} {cc sl pb pr : Nat} {K : List Wy} {D : Nat → Bool} (h : FoL w0 w wb g pg ca cc sl pb [pz] K D) (hp : PgOk pg sl pr) :
    Calls Tryd.prog 42 #[.pointer (some ⟨wb, 7, none⟩), .int .i64 (pr : Int)] w fun e w' => e = .returned (.int .u64 ((firP pr (lvS sl) [pz]).2.2 : Int)) ∧ FoL w0 w' wb g pg ca cc sl pb (firP pr (lvS sl) [pz]).1 K D := by
  obtain ⟨mb, gb, hw, hH⟩ := h.mem
  obtain ⟨gc, ss⟩ := hw.se
  have hs1 := hp.sl1
  have hp1 := hp.pr1
  have hlv := lvS_le (many := sl) (by omega)
  refine (first_any w wb ((g.at_ mb).h (pgA pg ca cc)) (lvS sl) gb gc mb [pz] ss (by omega) pr (by omega) (by simp; omega)).mono ?_
  rintro e w' ⟨rfl, hb⟩
  exact ⟨rfl, h.post hw hH (WkPost.of_se hw hb.out)⟩
theorem FoL.come {w0 w : World} {wb : Nat} {g : WG} {pg : CPg} {ca : Option Addr} {cc sl pb : Nat} {P : Prs} {K : List Wy} {D : Nat → Bool} (h : FoL w0 w wb g pg ca cc sl pb P K D) (hn : 0 < g.n) (s : Nat) :
    Calls Tryd.prog 41 #[.pointer (some ⟨wb, 0, none⟩), .int .i64 0, .agg #[.int .i64 1, .int .u64 (s : Int)]] w fun e w' => ∃ b, e = .returned (.bool b) ∧ FoL w0 w' wb g pg ca cc sl pb P (comeK K 0 (1, s)) (comeD K 0 D) := by
  obtain ⟨mb, gb, hw, hH⟩ := h.mem
  refine (come_any w wb (g.at_ mb) (pgA pg ca cc) (lvS sl) gb P K D hw 0 hn (1, s)).mono ?_
  rintro e w' ⟨rfl, hb⟩
  exact ⟨_, rfl, h.post hw hH hb.out⟩
end Go.Proofs.YtadmpgegolmkgaaDoor
