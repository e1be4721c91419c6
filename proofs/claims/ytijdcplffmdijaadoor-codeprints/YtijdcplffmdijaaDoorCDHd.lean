import Derived.Test.YtijdcplffmdijaaDoorCDHc
import Derived.Test.YtijdcplffmdijaaDoorCDEf
namespace Go.Proofs.YtijdcplffmdijaaDoor
open Go.RowKit
set_option linter.unusedVariables false
set_option linter.unusedSimpArgs false

/-- a row's own block lies in the world -/
theorem LU.lt {W : World} {B cut xb : Nat} {pv tv cv iv : Value} {ps : List CPg} {ts : List CTy} {cl : List (List CIn)} {il : List (List Int)} (h : LU W B cut xb pv tv cv iv ps ts cl il) : (∀ g, tv.ownBlock = some g → g < W.heap.size) ∧ (∀ g, iv.ownBlock = some g → g < W.heap.size) ∧ (∀ g, pv.ownBlock = some g → g < W.heap.size) ∧ (∀ g, cv.ownBlock = some g → g < W.heap.size) := ⟨h.tys.blk, h.its.blk, h.pgs.blk, h.cds.blk⟩
/-- a type, lent -/
theorem lend_type {wr : World} {B cut xb H : Nat} {pv tv cv iv : Value} {ps : List CPg} {ts : List CTy} {cl : List (List CIn)} {il : List (List Int)} (h : LU wr B cut xb pv tv cv iv ps ts cl il) (hB : B ≤ wr.heap.size) (hxb : B ≤ xb) (hH : wr.heap.size = H) (hl1 : ts.length ≤ 1099511627776) (hl2 : il.length ≤ 1099511627776) (t : CTy) (ka : Option Addr) (kc n : Nat) (hn : t.kids.length = n)
    (w2 : World) (g c : Nat) (hb : Below (H + 1) (wr.alloc (.cells #[.int .i64 t.kind, .slice ka n kc, .bool t.res] 54)) w2) (hk : IK w2 (some ⟨g, 0, none⟩) c (t.kids ++ [-77, -78])) (hgB : B ≤ g ∧ IlK w2 g) :
    (w2.cell? ⟨H, 1, none⟩ = some (.slice ka n kc) ∧ w2.frozen? ⟨H, 1, none⟩ = false ∧ H < w2.heap.size) ∧
    ∃ X3, w2.setCell ⟨H, 1, none⟩ (.slice (some ⟨g, 0, none⟩) n c) = X3 ∧ (X3.cell? ⟨xb, 5, none⟩ = some iv ∧ xb < X3.heap.size) ∧
    ∃ X4, X3.alloc (.cells #[.slice (some ⟨g, 0, none⟩) (n + 2) c] 26) = X4 ∧
    ∃ g5 c5 X5, (∀ ty, (Builtin.append_ #[39, 39] ty #[iv, .slice (some ⟨X3.heap.size, 0, none⟩) 1 1]).run Tryd.prog X4 = .ok (.slice (some ⟨g5, 0, none⟩) (il.length + 1) c5) X5) ∧ (X5.cell? ⟨xb, 5, none⟩ = some iv ∧ X5.frozen? ⟨xb, 5, none⟩ = false ∧ xb < X5.heap.size) ∧
    ∃ X6, X5.setCell ⟨xb, 5, none⟩ (.slice (some ⟨g5, 0, none⟩) (il.length + 1) c5) = X6 ∧ (X6.cell? ⟨xb, 3, none⟩ = some tv ∧ xb < X6.heap.size ∧ X6.cell? ⟨H, 0, none⟩ = some (.int .i64 t.kind) ∧ X6.cell? ⟨H, 1, none⟩ = some (.slice (some ⟨g, 0, none⟩) n c) ∧ X6.cell? ⟨H, 2, none⟩ = some (.bool t.res) ∧ H < X6.heap.size) ∧
    ∃ X7, X6.alloc (.cells #[.int .i64 t.kind, .slice (some ⟨g, 0, none⟩) n c, .bool t.res] 54) = X7 ∧
    ∃ g8 c8 X8, (∀ ty, (Builtin.append_ #[34, 34] ty #[tv, .slice (some ⟨X6.heap.size, 0, none⟩) 1 1]).run Tryd.prog X7 = .ok (.slice (some ⟨g8, 0, none⟩) (ts.length + 1) c8) X8) ∧ (X8.cell? ⟨xb, 3, none⟩ = some tv ∧ X8.frozen? ⟨xb, 3, none⟩ = false ∧ xb < X8.heap.size) ∧
    Bx (LU (X8.setCell ⟨xb, 3, none⟩ (.slice (some ⟨g8, 0, none⟩) (ts.length + 1) c8)) B cut xb pv (.slice (some ⟨g8, 0, none⟩) (ts.length + 1) c8) cv (.slice (some ⟨g5, 0, none⟩) (il.length + 1) c5) ps (ts ++ [t]) cl (il ++ [t.kids]) ∧ Below B wr (X8.setCell ⟨xb, 3, none⟩ (.slice (some ⟨g8, 0, none⟩) (ts.length + 1) c8))) := by
  subst hn
  have b1 := below1 wr (.cells #[.int .i64 t.kind, .slice ka t.kids.length kc, .bool t.res] 54)
  have s1 : (wr.alloc (.cells #[.int .i64 t.kind, .slice ka t.kids.length kc, .bool t.res] 54)).heap.size = H + 1 := by simp; omega
  have i1 : (wr.alloc (.cells #[.int .i64 t.kind, .slice ka t.kids.length kc, .bool t.res] 54)).heap[H]? = some (.cells #[.int .i64 t.kind, .slice ka t.kids.length kc, .bool t.res] 54 (0, 0)) := heap_newH wr _ H hH
  have i2 := (hb.block H (by omega)).trans i1
  have b2 : Below wr.heap.size wr w2 := b1.trans (hb.mono (by omega))
  have L2 := h.below b2
  obtain ⟨p1, p2, p3, p4⟩ := h.lt
  have L3 := L2.poke (i := 1) (v := .slice (some ⟨g, 0, none⟩) t.kids.length c) i2 (by decide) (by have := h.cut_; omega) (fun x hx => by have := p1 x hx; omega) (fun x hx => by have := p2 x hx; omega) (fun x hx => by have := p3 x hx; omega) (fun x hx => by have := p4 x hx; omega)
  have hk3 := hk.onp (Kp.set (i := 1) (v := .slice (some ⟨g, 0, none⟩) t.kids.length c) i2) fun _ => by decide
  have hg3 := hgB.2.onp (Kp.set (i := 1) (v := .slice (some ⟨g, 0, none⟩) t.kids.length c) i2) (by decide)
  have i3 := heap_setCell_same w2 H 1 _ _ (.slice (some ⟨g, 0, none⟩) t.kids.length c) i2
  have hs2 := hb.size
  generalize hX3 : w2.setCell ⟨H, 1, none⟩ (.slice (some ⟨g, 0, none⟩) t.kids.length c) = X3 at *
  have s3 : wr.heap.size ≤ X3.heap.size := by rw [← hX3]; simp; omega
  refine ⟨⟨cell_blk i2 rfl, by simp [World.frozen?, i2], (Array.getElem?_eq_some_iff.1 i2).1⟩, X3, rfl, ?_⟩
  obtain ⟨q1, q2, g5, c5, X5, r5, L6, S6⟩ := ints_step L3 (by omega) hxb hl2 t.kids g c hk3 ⟨hgB.1, hg3⟩
  refine ⟨⟨q1, q2⟩, _, rfl, g5, c5, X5, r5, ⟨S6.cell, S6.froz, S6.lt⟩, _, rfl, ?_⟩
  have hk6 := hk3.onp S6.keep fun _ => by decide
  have i6 := (S6.keep.blk H _ _ _ i3 (by decide)).trans i3
  generalize hX6 : X5.setCell ⟨xb, 5, none⟩ (.slice (some ⟨g5, 0, none⟩) (il.length + 1) c5) = X6 at *
  have s6 := S6.bel.size
  obtain ⟨y1, y2, g8, c8, X8, r8, L9, S9⟩ := tys_step L6 (by omega) hxb hl1 t (some ⟨g, 0, none⟩) c hk6.head
  refine ⟨⟨y1, y2, cell_blk i6 rfl, cell_blk i6 rfl, cell_blk i6 rfl, (Array.getElem?_eq_some_iff.1 i6).1⟩, _, rfl, g8, c8, X8, r8, ⟨S9.cell, S9.froz, S9.lt⟩, ⟨L9, ?_⟩⟩
  have b3 : Below B wr X3 := by rw [← hX3]; exact (b2.mono hB).setCell (p := ⟨H, 1, none⟩) (show B ≤ H by omega) _
  exact (b3.trans S6.bel).trans S9.bel
/-- an instruction, lent -/
theorem lend_ins {wr : World} {B cut xb H Hc : Nat} {pv tv cv iv v : Value} {ps : List CPg} {ts : List CTy} {cl : List (List CIn)} {il : List (List Int)} {l : List CIn} (h : LU wr B cut xb pv tv cv iv ps ts cl il) (ho : OwnL InC wr Hc 28 4 v l) (hc1 : cut ≤ Hc) (hc2 : B ≤ Hc) (hc3 : Hc ≤ wr.heap.size) (hxb : B ≤ xb) (hH : wr.heap.size = H) (hl1 : l.length ≤ 1099511627776) (hl2 : il.length ≤ 1099511627776) (t : CIn) (ka : Option Addr) (kc n : Nat) (hn : t.list.length = n)
    (w2 : World) (g c : Nat) (hb : Below (H + 1) (wr.alloc (.cells #[.int .i64 t.op, .int .i64 t.a, .int .i64 t.b, .slice ka n kc] 28)) w2) (hk : IK w2 (some ⟨g, 0, none⟩) c (t.list ++ [-77, -78])) (hgB : B ≤ g ∧ IlK w2 g) :
    (w2.cell? ⟨H, 3, none⟩ = some (.slice ka n kc) ∧ w2.frozen? ⟨H, 3, none⟩ = false ∧ H < w2.heap.size) ∧
    ∃ X3, w2.setCell ⟨H, 3, none⟩ (.slice (some ⟨g, 0, none⟩) n c) = X3 ∧ (X3.cell? ⟨xb, 5, none⟩ = some iv ∧ xb < X3.heap.size) ∧
    ∃ X4, X3.alloc (.cells #[.slice (some ⟨g, 0, none⟩) (n + 2) c] 26) = X4 ∧
    ∃ g5 c5 X5, (∀ ty, (Builtin.append_ #[39, 39] ty #[iv, .slice (some ⟨X3.heap.size, 0, none⟩) 1 1]).run Tryd.prog X4 = .ok (.slice (some ⟨g5, 0, none⟩) (il.length + 1) c5) X5) ∧ (X5.cell? ⟨xb, 5, none⟩ = some iv ∧ X5.frozen? ⟨xb, 5, none⟩ = false ∧ xb < X5.heap.size) ∧
    ∃ X6, X5.setCell ⟨xb, 5, none⟩ (.slice (some ⟨g5, 0, none⟩) (il.length + 1) c5) = X6 ∧ (X6.cell? ⟨H, 0, none⟩ = some (.int .i64 t.op) ∧ X6.cell? ⟨H, 1, none⟩ = some (.int .i64 t.a) ∧ X6.cell? ⟨H, 2, none⟩ = some (.int .i64 t.b) ∧ X6.cell? ⟨H, 3, none⟩ = some (.slice (some ⟨g, 0, none⟩) n c) ∧ H < X6.heap.size) ∧
    ∃ X7, X6.alloc (.cells #[.int .i64 t.op, .int .i64 t.a, .int .i64 t.b, .slice (some ⟨g, 0, none⟩) n c] 28) = X7 ∧
    ∃ g8 c8 X8, (∀ ty, (Builtin.append_ #[55, 55] ty #[v, .slice (some ⟨X6.heap.size, 0, none⟩) 1 1]).run Tryd.prog X7 = .ok (.slice (some ⟨g8, 0, none⟩) (l.length + 1) c8) X8) ∧
    Bx (LU X8 B cut xb pv tv cv (.slice (some ⟨g5, 0, none⟩) (il.length + 1) c5) ps ts cl (il ++ [t.list]) ∧ OwnL InC X8 Hc 28 4 (.slice (some ⟨g8, 0, none⟩) (l.length + 1) c8) (l ++ [t]) ∧ Below B wr X8 ∧ Kp (fun x t => (t ≠ 28) ∧ t ≠ 26 ∧ t ≠ 41) wr X8) := by
  subst hn
  have b1 := below1 wr (.cells #[.int .i64 t.op, .int .i64 t.a, .int .i64 t.b, .slice ka t.list.length kc] 28)
  have s1 : (wr.alloc (.cells #[.int .i64 t.op, .int .i64 t.a, .int .i64 t.b, .slice ka t.list.length kc] 28)).heap.size = H + 1 := by simp; omega
  have i1 : (wr.alloc (.cells #[.int .i64 t.op, .int .i64 t.a, .int .i64 t.b, .slice ka t.list.length kc] 28)).heap[H]? = some (.cells #[.int .i64 t.op, .int .i64 t.a, .int .i64 t.b, .slice ka t.list.length kc] 28 (0, 0)) := heap_newH wr _ H hH
  have i2 := (hb.block H (by omega)).trans i1
  have b2 : Below wr.heap.size wr w2 := b1.trans (hb.mono (by omega))
  have L2 := h.below b2
  obtain ⟨p1, p2, p3, p4⟩ := h.lt
  have p5 := ho.blk
  have L3 := L2.poke (i := 3) (v := .slice (some ⟨g, 0, none⟩) t.list.length c) i2 (by decide) (by have := h.cut_; omega) (fun x hx => by have := p1 x hx; omega) (fun x hx => by have := p2 x hx; omega) (fun x hx => by have := p3 x hx; omega) (fun x hx => by have := p4 x hx; omega)
  have ks := Kp.set (i := 3) (v := .slice (some ⟨g, 0, none⟩) t.list.length c) i2
  have kx := Kp.setX w2 H 3 (.slice (some ⟨g, 0, none⟩) t.list.length c)
  have hk3 := hk.onp ks fun _ => by decide
  have hg3 := hgB.2.onp ks (by decide)
  have o2 : OwnL InC w2 Hc 28 4 v l := ho.on (InC.on (P := fun _ _ => True) (Kp.of b2) fun _ => trivial) (Kp.of (P := fun _ _ => True) b2) fun _ _ => trivial
  have o3 := o2.on (InC.on ks fun _ => by decide) kx fun x hx => by have := p5 x hx; omega
  have i3 := heap_setCell_same w2 H 3 _ _ (.slice (some ⟨g, 0, none⟩) t.list.length c) i2
  have hs2 := hb.size
  have K3 : Kp (fun _ t => t ≠ 28) wr (w2.setCell ⟨H, 3, none⟩ (.slice (some ⟨g, 0, none⟩) t.list.length c)) := ((Kp.of b2).and ks).mono fun _ _ h => ⟨trivial, h⟩
  generalize hX3 : w2.setCell ⟨H, 3, none⟩ (.slice (some ⟨g, 0, none⟩) t.list.length c) = X3 at *
  have s3 : wr.heap.size ≤ X3.heap.size := by rw [← hX3]; simp; omega
  refine ⟨⟨cell_blk i2 rfl, by simp [World.frozen?, i2], (Array.getElem?_eq_some_iff.1 i2).1⟩, X3, rfl, ?_⟩
  obtain ⟨q1, q2, g5, c5, X5, r5, L6, S6⟩ := ints_step L3 (by omega) hxb hl2 t.list g c hk3 ⟨hgB.1, hg3⟩
  refine ⟨⟨q1, q2⟩, _, rfl, g5, c5, X5, r5, ⟨S6.cell, S6.froz, S6.lt⟩, _, rfl, ?_⟩
  have hk6 := hk3.onp S6.keep fun _ => by decide
  have i6 := (S6.keep.blk H _ _ _ i3 (by decide)).trans i3
  have o6 := o3.on (InC.on S6.keep fun _ => by decide) S6.keep fun _ _ => by decide
  generalize hX6 : X5.setCell ⟨xb, 5, none⟩ (.slice (some ⟨g5, 0, none⟩) (il.length + 1) c5) = X6 at *
  have s6 := S6.bel.size
  obtain ⟨g8, c8, X8, r8, o8, L8, k8, b8⟩ := code_step L6 o6 hc1 hc2 (by omega) hl1 t (some ⟨g, 0, none⟩) c hk6.head
  refine ⟨⟨cell_blk i6 rfl, cell_blk i6 rfl, cell_blk i6 rfl, cell_blk i6 rfl, (Array.getElem?_eq_some_iff.1 i6).1⟩, _, rfl, g8, c8, X8, r8, ⟨L8, o8, ?_, ((K3.and S6.keep).and k8).mono fun _ _ h => ⟨⟨h.1, h.2⟩, h.1⟩⟩⟩
  have b3 : Below B wr X3 := by rw [← hX3]; exact (b2.mono (by omega)).setCell (p := ⟨H, 3, none⟩) (show B ≤ H by omega) _
  exact (b3.trans S6.bel).trans b8
theorem ik_none (w : World) : IK w none 0 [] := IK.nil _ _ _
/-- a prog, lent: its code is done -/
theorem lend_prog {wr : World} {B cut xb Hp Hc n : Nat} {pv tv cv iv v : Value} {ps : List CPg} {ts : List CTy} {cl : List (List CIn)} {il : List (List Int)} (h : LU wr B cut xb pv tv cv iv ps ts cl il) (p : CPg) (hn : p.code.length = n) (ho : OwnL InC wr Hc 28 4 v p.code) (hc1 : cut ≤ Hc) (hc2 : B ≤ Hc) (hc3 : Hc ≤ wr.heap.size) (hxb : B ≤ xb) (hp0 : Hp < Hc) (hp1 : cut ≤ Hp) (hp2 : B ≤ Hp) (hpt : ∀ g, tv.ownBlock = some g → g < Hp) (hpp : ∀ g, pv.ownBlock = some g → g < Hp)
    (w4v : Value) (hpb : wr.heap[Hp]? = some (.cells #[.int .i64 p.params, .int .i64 p.slots, .int .i64 p.caps, .bool p.res, w4v] 57 (0, 0))) (hl1 : n ≤ 1099511627776) (hl2 : ps.length ≤ 1099511627776) (hl3 : cl.length ≤ 1099511627776) :
    ∃ X1, wr.alloc (.cells #[.int .i64 (-9), .int .i64 0, .int .i64 0, .slice none 0 0] 28) = X1 ∧
    ∃ g2 c2 X2, (∀ ty, (Builtin.append_ #[55, 55] ty #[v, .slice (some ⟨wr.heap.size, 0, none⟩) 1 1]).run Tryd.prog X1 = .ok (.slice (some ⟨g2, 0, none⟩) (n + 1) c2) X2) ∧ (X2.cell? ⟨xb, 4, none⟩ = some cv ∧ xb < X2.heap.size) ∧
    ∃ X3, X2.alloc (.cells #[.slice (some ⟨g2, 0, none⟩) (n + 1) c2] 55) = X3 ∧
    ∃ g4 c4 X4, (∀ ty, (Builtin.append_ #[38, 38] ty #[cv, .slice (some ⟨X2.heap.size, 0, none⟩) 1 1]).run Tryd.prog X3 = .ok (.slice (some ⟨g4, 0, none⟩) (cl.length + 1) c4) X4) ∧ (X4.cell? ⟨xb, 4, none⟩ = some cv ∧ X4.frozen? ⟨xb, 4, none⟩ = false ∧ xb < X4.heap.size) ∧
    ∃ X5, X4.setCell ⟨xb, 4, none⟩ (.slice (some ⟨g4, 0, none⟩) (cl.length + 1) c4) = X5 ∧ (X5.cell? ⟨Hp, 4, none⟩ = some w4v ∧ X5.frozen? ⟨Hp, 4, none⟩ = false ∧ Hp < X5.heap.size) ∧
    ∃ X6, X5.setCell ⟨Hp, 4, none⟩ (.slice (some ⟨g2, 0, none⟩) n c2) = X6 ∧ (X6.cell? ⟨xb, 2, none⟩ = some pv ∧ xb < X6.heap.size ∧ X6.cell? ⟨Hp, 0, none⟩ = some (.int .i64 p.params) ∧ X6.cell? ⟨Hp, 1, none⟩ = some (.int .i64 p.slots) ∧ X6.cell? ⟨Hp, 2, none⟩ = some (.int .i64 p.caps) ∧ X6.cell? ⟨Hp, 3, none⟩ = some (.bool p.res) ∧ X6.cell? ⟨Hp, 4, none⟩ = some (.slice (some ⟨g2, 0, none⟩) n c2) ∧ Hp < X6.heap.size) ∧
    ∃ X7, X6.alloc (.cells #[.int .i64 p.params, .int .i64 p.slots, .int .i64 p.caps, .bool p.res, .slice (some ⟨g2, 0, none⟩) n c2] 57) = X7 ∧
    ∃ g8 c8 X8, (∀ ty, (Builtin.append_ #[33, 33] ty #[pv, .slice (some ⟨X6.heap.size, 0, none⟩) 1 1]).run Tryd.prog X7 = .ok (.slice (some ⟨g8, 0, none⟩) (ps.length + 1) c8) X8) ∧ (X8.cell? ⟨xb, 2, none⟩ = some pv ∧ X8.frozen? ⟨xb, 2, none⟩ = false ∧ xb < X8.heap.size) ∧ n + 1 ≤ c2 ∧
    Bx (∃ cut', LU (X8.setCell ⟨xb, 2, none⟩ (.slice (some ⟨g8, 0, none⟩) (ps.length + 1) c8)) B cut' xb (.slice (some ⟨g8, 0, none⟩) (ps.length + 1) c8) tv (.slice (some ⟨g4, 0, none⟩) (cl.length + 1) c4) iv (ps ++ [p]) ts (cl ++ [p.code]) il ∧ Below B wr (X8.setCell ⟨xb, 2, none⟩ (.slice (some ⟨g8, 0, none⟩) (ps.length + 1) c8))) := by
  subst hn
  obtain ⟨g2, c2, X2, r2, o2, L2, k2, b2⟩ := code_step h ho hc1 hc2 hc3 hl1 noIn none 0 (ik_none wr)
  have s2 := b2.size
  have hpl : Hp < wr.heap.size := (Array.getElem?_eq_some_iff.1 hpb).1
  have e2 := (k2.blk Hp _ _ _ hpb (by decide)).trans hpb
  have hg2 : g2 < X2.heap.size := o2.blk g2 rfl
  have hcap : p.code.length + 1 ≤ c2 := by
    obtain ⟨cs, _, q⟩ := o2.ex
    rcases q.2 with ⟨q, _⟩ | ⟨g', c', cur, q, _, _, q1, _⟩
    · cases q
    · injection q with _ _ q
      subst q
      simpa using q1
  have L2' := L2.up (cut' := X2.heap.size) L2.cut_ (Nat.le_refl _)
  refine ⟨_, rfl, g2, c2, X2, r2, ?_⟩
  obtain ⟨q1, q2, g4, c4, X4, r4, L5, S5⟩ := cds_step L2' (by omega) hxb hl3 p.code (some ⟨g2, 0, none⟩) c2 (o2.low hc2) (fun g hg => by
    have : g2 = g := by simpa [Value.ownBlock] using hg
    omega)
  refine ⟨⟨q1, q2⟩, _, rfl, g4, c4, X4, r4, ⟨S5.cell, S5.froz, S5.lt⟩, _, rfl, ?_⟩
  have e5 := (S5.keep.blk Hp _ _ _ e2 (by decide)).trans e2
  have o5 := o2.on (InC.on S5.keep fun _ => by decide) S5.keep fun _ _ => by decide
  have s5 := S5.bel.size
  generalize hX5 : X4.setCell ⟨xb, 4, none⟩ (.slice (some ⟨g4, 0, none⟩) (cl.length + 1) c4) = X5 at *
  have L5o := L5
  have ks := Kp.set (i := 4) (v := .slice (some ⟨g2, 0, none⟩) p.code.length c2) e5
  have kx := Kp.setX X5 Hp 4 (.slice (some ⟨g2, 0, none⟩) p.code.length c2)
  have K6 : Kp (fun x t => t ≠ 57 ∨ x ≠ Hp) X5 (X5.setCell ⟨Hp, 4, none⟩ (.slice (some ⟨g2, 0, none⟩) p.code.length c2)) := ⟨kx.size, fun x c t fz hx hp => by
    rcases hp with hp | hp
    · exact ks.blk x c t fz hx hp
    · exact kx.blk x c t fz hx hp⟩
  have L6 := L5.on K6 (.inl (by decide)) (fun _ => .inl (by decide)) (fun _ _ => .inl (by decide)) (fun _ _ => .inl (by decide)) (fun _ _ => .inl (by decide)) (fun g hg => .inr (by have := hpp g hg; omega)) fun _ _ => .inl (by decide)
  have o6 := o5.on (InC.on ks fun _ => by decide) ks fun _ _ => by decide
  have i6 := heap_setCell_same X5 Hp 4 _ _ (.slice (some ⟨g2, 0, none⟩) p.code.length c2) e5
  refine ⟨⟨cell_blk e5 rfl, by simp [World.frozen?, e5], (Array.getElem?_eq_some_iff.1 e5).1⟩, _, rfl, ?_⟩
  have b6 : Below B X5 (X5.setCell ⟨Hp, 4, none⟩ (.slice (some ⟨g2, 0, none⟩) p.code.length c2)) := (Below.refl B X5).setCell (p := ⟨Hp, 4, none⟩) (show B ≤ Hp by omega) _
  generalize hX6 : X5.setCell ⟨Hp, 4, none⟩ (.slice (some ⟨g2, 0, none⟩) p.code.length c2) = X6 at *
  have s6 := b6.size
  obtain ⟨y1, y2, g8, c8, X8, r8, L9, S9⟩ := pgs_step L6 (by omega) hxb hl2 p (some ⟨g2, 0, none⟩) c2 ((o6.low hc2).pre inC_len rfl) (fun g hg => by
    have : g2 = g := by simpa [Value.ownBlock] using hg
    omega)
  refine ⟨⟨y1, y2, cell_blk i6 rfl, cell_blk i6 rfl, cell_blk i6 rfl, cell_blk i6 rfl, cell_blk i6 rfl, (Array.getElem?_eq_some_iff.1 i6).1⟩, _, rfl, g8, c8, X8, r8, ⟨S9.cell, S9.froz, S9.lt⟩, hcap, ⟨_, L9, ?_⟩⟩
  exact ((b2.trans S5.bel).trans b6).trans S9.bel
end Go.Proofs.YtijdcplffmdijaaDoor
